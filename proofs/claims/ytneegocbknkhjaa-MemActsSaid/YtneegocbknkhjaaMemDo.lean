/-
  PACKAGE marchlandlaw08: do: an access, by its kind.
-/
import Derived.Test.YtneegocbknkhjaaMemGood
import Derived.Test.YtneegocbknkhjaaMemSet
import Derived.Test.YtneegocbknkhjaaJoined3
import Derived.Test.YtneegocbknkhjaaBatchTo
import Derived.Deep.CutBlock
import Derived.Deep.CutRange
import Derived.Deep.RegionHeldLaw
namespace Go.Proofs.Ytneegocbknkhjaa.Mm
open Go.RowKit Rw Pk
set_option linter.unusedVariables false

def LdP (τ : Nat → Nat) (p : Nat) (w : World) (x : Int) (l : List Batch.Ch) (ok : Bool) (M' : St) (e : Ending) (w' : World) : Prop := ∃ box, e = .returned (.tuple #[.int .u64 x, box, .bool ok]) ∧ Batch.Sl w' box l ∧ (∀ g, box.ownBlock = some g → w.heap.size ≤ g) ∧ MemP τ w p M' w'
theorem nil_own {n : Nat} : ∀ g, (Value.slice none 0 0).ownBlock = some g → n ≤ g := fun g h => by simp [Value.ownBlock] at h
theorem rd_nil (w : World) : Batch.Rd w (.slice none 0 0) [] := (Batch.Sl.nil w).rd
theorem five_op {w : World} {b : Nat} {v0 v1 v2 v3 v4 : Value} {T : TypeId} (h : w.heap[b]? = some (.cells #[v0, v1, v2, v3, v4] T (0, 0))) :
    w.cell? ⟨b, 0, none⟩ = some v0 ∧ w.cell? ⟨b, 1, none⟩ = some v1 ∧ w.cell? ⟨b, 2, none⟩ = some v2 ∧ w.cell? ⟨b, 3, none⟩ = some v3 ∧ w.cell? ⟨b, 4, none⟩ = some v4 := by
  obtain ⟨h0, h1, h2, h3, h4, _⟩ := five h
  exact ⟨h0, h1, h2, h3, h4⟩
theorem wakeV_range {M : St} {who a : Int} {k : Nat} {A B C : Nat} (h : Good A B C k M) (hk : k ≤ 1000000) : 0 ≤ wakeV M who a ∧ wakeV M who a ≤ 1000000 := by
  unfold wakeV
  have := (h.latA a).1
  split <;> omega
set_option maxRecDepth 1000000 in
set_option maxHeartbeats 8000000 in
theorem ld_0 {w : World} {τ : Nat → Nat} {p A B C k : Nat} {M : St} (hM : MemAt τ w p M) (hG : Good A B C k M) (hA : A ≤ 65536) (hB : B ≤ 65536) (hC : C ≤ 65536) (hk : k ≤ 100000) (who a v : Int) (vo : Option Addr) (vn vc : Nat) (hw : I64 who) (ha : I64 a) :
    Calls Try.prog 18 #[.pointer (some ⟨p, 0, none⟩), .agg #[.int .i64 who, .int .i64 0, .int .i64 a, .int .u64 v, .slice vo vn vc]] w (LdP τ p w (loadV M who a) ([]) (true) (lookS M who 0 a)) := by
  obtain ⟨w0, hw0⟩ : ∃ w0, w0 = w.alloc (.cells #[.int .i64 who, .int .i64 0, .int .i64 a, .int .u64 v, .slice vo vn vc] 33) := ⟨_, rfl⟩
  have hb0 : Below w.heap.size w w0 := by rw [hw0]; exact (Below.refl _ _).alloc (Nat.le_refl _) _
  have hbn := hG.bnd hA hB hC (by omega)
  have HC := Lib.hid (load_any (hM.below hb0) hbn.1 who a hw ha)
  have HB0 := Lib.hid hb0
  clear hM hG hbn hb0 hw ha
  go_enter Try.func18, Try.ntmps18
  go_wp2_with fail
  go_at_call 39
  rw [← hw0]
  clear hw0
  refine HC.out.mono ?_
  rintro e w1 ⟨rfl, hp⟩
  have HP := Lib.hid (show MemP τ w p (lookS M who 0 a) w1 from MemP.trans (Step.of_below HB0.out) hp)
  clear hp
  go_wp2_with fail
  go_ret3
  exact ⟨_, rfl, Batch.Sl.nil _, nil_own, HP.out⟩
set_option maxRecDepth 1000000 in
set_option maxHeartbeats 8000000 in
theorem ld_1 {w : World} {τ : Nat → Nat} {p A B C k : Nat} {M : St} (hM : MemAt τ w p M) (hG : Good A B C k M) (hA : A ≤ 65536) (hB : B ≤ 65536) (hC : C ≤ 65536) (hk : k ≤ 100000) (who a v : Int) (vo : Option Addr) (vn vc : Nat) (hw : I64 who) (ha : I64 a) :
    Calls Try.prog 18 #[.pointer (some ⟨p, 0, none⟩), .agg #[.int .i64 who, .int .i64 1, .int .i64 a, .int .u64 v, .slice vo vn vc]] w (LdP τ p w (0) ([]) (true) (storeS M who a v)) := by
  obtain ⟨w0, hw0⟩ : ∃ w0, w0 = w.alloc (.cells #[.int .i64 who, .int .i64 1, .int .i64 a, .int .u64 v, .slice vo vn vc] 33) := ⟨_, rfl⟩
  have hb0 : Below w.heap.size w w0 := by rw [hw0]; exact (Below.refl _ _).alloc (Nat.le_refl _) _
  have hbn := hG.bnd hA hB hC (by omega)
  have HC := Lib.hid (store_any (hM.below hb0) hbn.1 who a v hw ha)
  have HB0 := Lib.hid hb0
  clear hM hG hbn hb0 hw ha
  go_enter Try.func18, Try.ntmps18
  go_wp2_with fail
  go_at_call 38
  rw [← hw0]
  clear hw0
  refine HC.out.mono ?_
  rintro e w1 ⟨rfl, hp⟩
  have HP := Lib.hid (show MemP τ w p (storeS M who a v) w1 from MemP.trans (Step.of_below HB0.out) hp)
  clear hp
  go_wp2_with fail
  go_ret3
  exact ⟨_, rfl, Batch.Sl.nil _, nil_own, HP.out⟩
theorem getV_wf {M : St} {A B C k : Nat} (h : Good A B C k M) (who a : Int) : ∀ x ∈ getV M who a, x.Wf := by
  unfold getV
  split
  · rw [List.getD_eq_getElem?_getD]
    cases hx : M.bs[a.toNat]? with
    | none => simp
    | some l => exact (h.bx l (List.mem_of_getElem? hx)).2
  · simp
set_option maxRecDepth 1000000 in
set_option maxHeartbeats 8000000 in
theorem ld_2 {w : World} {τ : Nat → Nat} {p A B C k : Nat} {M : St} (hM : MemAt τ w p M) (hG : Good A B C k M) (hA : A ≤ 65536) (hB : B ≤ 65536) (hC : C ≤ 65536) (hk : k ≤ 100000) (who a v : Int) (vo : Option Addr) (vn vc : Nat) (hw : I64 who) (ha : I64 a) :
    Calls Try.prog 18 #[.pointer (some ⟨p, 0, none⟩), .agg #[.int .i64 who, .int .i64 2, .int .i64 a, .int .u64 v, .slice vo vn vc]] w (LdP τ p w (0) (getV M who a) (true) (lookS M who 2 a)) := by
  obtain ⟨w0, hw0⟩ : ∃ w0, w0 = w.alloc (.cells #[.int .i64 who, .int .i64 2, .int .i64 a, .int .u64 v, .slice vo vn vc] 33) := ⟨_, rfl⟩
  have hb0 : Below w.heap.size w w0 := by rw [hw0]; exact (Below.refl _ _).alloc (Nat.le_refl _) _
  have hbn := hG.bnd hA hB hC (by omega)
  have HC := Lib.hid (get_any (hM.below hb0) hbn.1 who a hw ha)
  have HB0 := Lib.hid hb0
  have HWG : Hid (∀ x ∈ getV M who a, x.Wf) := Lib.hid (getV_wf hG who a)
  clear hM hG hbn hb0 hw ha
  go_enter Try.func18, Try.ntmps18
  go_wp2_with fail
  go_at_call 36
  rw [← hw0]
  clear hw0
  refine HC.out.mono ?_
  rintro e w1 ⟨vg, rfl, hog, hp⟩
  have HP := Lib.hid (show MemP τ w p (lookS M who 2 a) w1 from MemP.trans (Step.of_below HB0.out) hp)
  have HR := Lib.hid (Batch.Own.sl hog HWG.out)
  have HRO := Lib.hid (fun (g : Nat) (e : vg.ownBlock = some g) => Nat.le_trans HB0.out.size (World.ownsRow.lt hog g e).1)
  clear hp hog
  go_wp2_with fail
  go_ret3
  exact ⟨_, rfl, HR.out, HRO.out, HP.out⟩
set_option maxRecDepth 1000000 in
set_option maxHeartbeats 8000000 in
theorem ld_4 {w : World} {τ : Nat → Nat} {p A B C k : Nat} {M : St} (hM : MemAt τ w p M) (hG : Good A B C k M) (hA : A ≤ 65536) (hB : B ≤ 65536) (hC : C ≤ 65536) (hk : k ≤ 100000) (who a v : Int) (vo : Option Addr) (vn vc : Nat) (hw : I64 who) (ha : I64 a) :
    Calls Try.prog 18 #[.pointer (some ⟨p, 0, none⟩), .agg #[.int .i64 who, .int .i64 4, .int .i64 a, .int .u64 v, .slice vo vn vc]] w (LdP τ p w (0) ([]) (takeV M who a) (takeS M who a)) := by
  obtain ⟨w0, hw0⟩ : ∃ w0, w0 = w.alloc (.cells #[.int .i64 who, .int .i64 4, .int .i64 a, .int .u64 v, .slice vo vn vc] 33) := ⟨_, rfl⟩
  have hb0 : Below w.heap.size w w0 := by rw [hw0]; exact (Below.refl _ _).alloc (Nat.le_refl _) _
  have hbn := hG.bnd hA hB hC (by omega)
  have HC := Lib.hid (take_any (hM.below hb0) hbn.1 who a hw ha)
  have HB0 := Lib.hid hb0
  clear hM hG hbn hb0 hw ha
  go_enter Try.func18, Try.ntmps18
  go_wp2_with fail
  go_at_call 34
  rw [← hw0]
  clear hw0
  refine HC.out.mono ?_
  rintro e w1 ⟨rfl, hp⟩
  have HP := Lib.hid (show MemP τ w p (takeS M who a) w1 from MemP.trans (Step.of_below HB0.out) hp)
  clear hp
  go_wp2_with fail
  go_ret3
  exact ⟨_, rfl, Batch.Sl.nil _, nil_own, HP.out⟩
set_option maxRecDepth 1000000 in
set_option maxHeartbeats 8000000 in
theorem ld_5 {w : World} {τ : Nat → Nat} {p A B C k : Nat} {M : St} (hM : MemAt τ w p M) (hG : Good A B C k M) (hA : A ≤ 65536) (hB : B ≤ 65536) (hC : C ≤ 65536) (hk : k ≤ 100000) (who a v : Int) (vo : Option Addr) (vn vc : Nat) (hw : I64 who) (ha : I64 a) :
    Calls Try.prog 18 #[.pointer (some ⟨p, 0, none⟩), .agg #[.int .i64 who, .int .i64 5, .int .i64 a, .int .u64 v, .slice vo vn vc]] w (LdP τ p w (0) ([]) (relV M who 5 a) (relS M who 5 a)) := by
  obtain ⟨w0, hw0⟩ : ∃ w0, w0 = w.alloc (.cells #[.int .i64 who, .int .i64 5, .int .i64 a, .int .u64 v, .slice vo vn vc] 33) := ⟨_, rfl⟩
  have hb0 : Below w.heap.size w w0 := by rw [hw0]; exact (Below.refl _ _).alloc (Nat.le_refl _) _
  have hbn := hG.bnd hA hB hC (by omega)
  have HC := Lib.hid (free_any (hM.below hb0) hbn.1 who a hw ha)
  have HB0 := Lib.hid hb0
  clear hM hG hbn hb0 hw ha
  go_enter Try.func18, Try.ntmps18
  go_wp2_with fail
  go_at_call 37
  rw [← hw0]
  clear hw0
  refine HC.out.mono ?_
  rintro e w1 ⟨rfl, hp⟩
  have HP := Lib.hid (show MemP τ w p (relS M who 5 a) w1 from MemP.trans (Step.of_below HB0.out) hp)
  clear hp
  go_wp2_with fail
  go_ret3
  exact ⟨_, rfl, Batch.Sl.nil _, nil_own, HP.out⟩
set_option maxRecDepth 1000000 in
set_option maxHeartbeats 8000000 in
theorem ld_6 {w : World} {τ : Nat → Nat} {p A B C k : Nat} {M : St} (hM : MemAt τ w p M) (hG : Good A B C k M) (hA : A ≤ 65536) (hB : B ≤ 65536) (hC : C ≤ 65536) (hk : k ≤ 100000) (who a v : Int) (vo : Option Addr) (vn vc : Nat) (hw : I64 who) (ha : I64 a) :
    Calls Try.prog 18 #[.pointer (some ⟨p, 0, none⟩), .agg #[.int .i64 who, .int .i64 6, .int .i64 a, .int .u64 v, .slice vo vn vc]] w (LdP τ p w (0) ([]) (relV M who 6 a) (sleepS M who a)) := by
  obtain ⟨w0, hw0⟩ : ∃ w0, w0 = w.alloc (.cells #[.int .i64 who, .int .i64 6, .int .i64 a, .int .u64 v, .slice vo vn vc] 33) := ⟨_, rfl⟩
  have hb0 : Below w.heap.size w w0 := by rw [hw0]; exact (Below.refl _ _).alloc (Nat.le_refl _) _
  have hbn := hG.bnd hA hB hC (by omega)
  have HC := Lib.hid (sleep_any (hM.below hb0) hbn.1 (fun L hL => (hbn.2 L hL).1) who a hw ha)
  have HB0 := Lib.hid hb0
  clear hM hG hbn hb0 hw ha
  go_enter Try.func18, Try.ntmps18
  go_wp2_with fail
  go_at_call 69
  rw [← hw0]
  clear hw0
  refine HC.out.mono ?_
  rintro e w1 ⟨rfl, hp⟩
  have HP := Lib.hid (show MemP τ w p (sleepS M who a) w1 from MemP.trans (Step.of_below HB0.out) hp)
  clear hp
  go_wp2_with fail
  go_ret3
  exact ⟨_, rfl, Batch.Sl.nil _, nil_own, HP.out⟩
set_option maxRecDepth 1000000 in
set_option maxHeartbeats 8000000 in
theorem ld_7 {w : World} {τ : Nat → Nat} {p A B C k : Nat} {M : St} (hM : MemAt τ w p M) (hG : Good A B C k M) (hA : A ≤ 65536) (hB : B ≤ 65536) (hC : C ≤ 65536) (hk : k ≤ 100000) (who a v : Int) (vo : Option Addr) (vn vc : Nat) (hw : I64 who) (ha : I64 a) :
    Calls Try.prog 18 #[.pointer (some ⟨p, 0, none⟩), .agg #[.int .i64 who, .int .i64 7, .int .i64 a, .int .u64 v, .slice vo vn vc]] w (LdP τ p w (wakeV M who a) ([]) (true) (wakeS M who a)) := by
  obtain ⟨w0, hw0⟩ : ∃ w0, w0 = w.alloc (.cells #[.int .i64 who, .int .i64 7, .int .i64 a, .int .u64 v, .slice vo vn vc] 33) := ⟨_, rfl⟩
  have hb0 : Below w.heap.size w w0 := by rw [hw0]; exact (Below.refl _ _).alloc (Nat.le_refl _) _
  have hbn := hG.bnd hA hB hC (by omega)
  have HC := Lib.hid (wake_any (hM.below hb0) hbn who a hw ha)
  have HB0 := Lib.hid hb0
  obtain ⟨hwk0, hwk1⟩ := wakeV_range (who := who) (a := a) hG (by omega)
  have hwk2 : IntKind.u64.wrap (wakeV M who a) = wakeV M who a := by rw [u64_of]; omega
  clear hM hG hbn hb0 hw ha
  go_enter Try.func18, Try.ntmps18
  go_wp2_with fail
  go_at_call 70
  rw [← hw0]
  clear hw0
  refine HC.out.mono ?_
  rintro e w1 ⟨rfl, hp⟩
  have HP := Lib.hid (show MemP τ w p (wakeS M who a) w1 from MemP.trans (Step.of_below HB0.out) hp)
  clear hp
  go_wp2_with fail
  go_ret3
  exact ⟨_, rfl, Batch.Sl.nil _, nil_own, HP.out⟩
set_option maxRecDepth 1000000 in
set_option maxHeartbeats 8000000 in
theorem ld_3 {w : World} {τ : Nat → Nat} {p A B C k : Nat} {M : St} {l : List Batch.Ch} (hM : MemAt τ w p M) (hG : Good A B C k M) (hA : A ≤ 65536) (hB : B ≤ 65536) (hC : C ≤ 65536) (hk : k ≤ 100000) (who a v : Int) (vo : Option Addr) (vn vc : Nat) (hw : I64 who) (ha : I64 a) (hrd : Batch.Rd w (.slice vo vn vc) l) (hll : l.length ≤ 1000) :
    Calls Try.prog 18 #[.pointer (some ⟨p, 0, none⟩), .agg #[.int .i64 who, .int .i64 3, .int .i64 a, .int .u64 v, .slice vo vn vc]] w (LdP τ p w 0 [] true (setS M who a l)) := by
  obtain ⟨w0, hw0⟩ : ∃ w0, w0 = w.alloc (.cells #[.int .i64 who, .int .i64 3, .int .i64 a, .int .u64 v, .slice vo vn vc] 33) := ⟨_, rfl⟩
  have hb0 : Below w.heap.size w w0 := by rw [hw0]; exact (Below.refl _ _).alloc (Nat.le_refl _) _
  have hbn := hG.bnd hA hB hC (by omega)
  have HB0 := Lib.hid hb0
  have HBD : Hid (Below w.heap.size w w0.drew) := Lib.hid hb0.drew
  have hst0 : w0.heap[w.heap.size]? = some (.cells #[.int .i64 who, .int .i64 3, .int .i64 a, .int .u64 v, .slice vo vn vc] 33 (0, 0)) := by rw [hw0]; exact heap_alloc_new w _
  have HLT0 : Hid (w.heap.size < w0.heap.size) := Lib.hid (Array.getElem?_eq_some_iff.1 hst0).1
  have hz : ∀ g, w.heap.size ≤ g → τ g = 0 := fun g hg => hM.zero hg
  have HSS : Hid (∀ wx : World, Below w0.heap.size w0 wx → wx.cell? ⟨w.heap.size, 0, none⟩ = some (.int .i64 who) ∧ wx.cell? ⟨w.heap.size, 2, none⟩ = some (.int .i64 a) ∧ wx.cell? ⟨w.heap.size, 4, none⟩ = some (.slice vo vn vc)) := Lib.hid (fun wx h => by
    obtain ⟨q0, _, q2, _, q4⟩ := five_op ((h.block _ HLT0.out).trans hst0)
    exact ⟨q0, q2, q4⟩)
  have HRD := Lib.hid hrd
  have HLL : Hid (l.length ≤ 100000) := Lib.hid (by omega)
  have hs0 := HSS.out w0.drew (Below.refl _ _).drew
  obtain ⟨_, x1, _, _, _⟩ := five_op hst0
  rw [hw0] at x1
  clear hrd hst0
  go_enter Try.func18, Try.ntmps18
  go_upto_region 9 with fail
  rw [← hw0]
  clear x1 hw0 hb0
  refine wp_region_held_drew (S := (fun w' => w'.cell? ⟨w.heap.size, 0, none⟩ = some (.int .i64 who) ∧ w'.cell? ⟨w.heap.size, 2, none⟩ = some (.int .i64 a) ∧ w'.cell? ⟨w.heap.size, 4, none⟩ = some (.slice vo vn vc))) (by kernel_rfl) ?_ (fun hHeld => ?_)
  · ((try dsimp only); exact hs0)
  refine wpAnyH_take (i := 0) (v := ?_) rfl (by kernel_rfl) (by kernel_rfl) (by kernel_rfl) (fun _ _ _ h => h) (Or.inl ⟨by rfl, ?_⟩) (by assumption) ?_
  rotate_left 1
  · (intro w hSw; (try dsimp only at hSw); first | (go_simp; done) | (go_simp; with_reducible rfl))
  try simp only [Act.put, List.setIfInBounds_toArray, List.set_cons_zero, List.set_cons_succ, List.getElem_toArray, List.getElem_cons_zero]
  refine wpAnyH_take (i := 1) (v := ?_) rfl (by kernel_rfl) (by kernel_rfl) (by kernel_rfl) (fun _ _ _ h => h) (Or.inl ⟨by rfl, ?_⟩) (by assumption) ?_
  rotate_left 1
  · (intro w hSw; (try dsimp only at hSw); first | (go_simp; done) | (go_simp; with_reducible rfl))
  try simp only [Act.put, List.setIfInBounds_toArray, List.set_cons_zero, List.set_cons_succ, List.getElem_toArray, List.getElem_cons_zero, List.getElem_cons_succ]
  refine wpAnyH_take (i := 2) (v := ?_) rfl (by kernel_rfl) (by kernel_rfl) (by kernel_rfl) (fun _ _ _ h => h) (Or.inl ⟨by rfl, ?_⟩) (by assumption) ?_
  rotate_left 1
  · (intro w hSw; (try dsimp only at hSw); first | (go_simp; done) | (go_simp; with_reducible rfl))
  try simp only [Act.put, List.setIfInBounds_toArray, List.set_cons_zero, List.set_cons_succ, List.getElem_toArray, List.getElem_cons_zero, List.getElem_cons_succ]
  refine wpAnyH_take (i := 3) (v := ?_) rfl (by kernel_rfl) (by kernel_rfl) (by kernel_rfl) (fun _ _ _ h => h) (Or.inl ⟨by rfl, ?_⟩) (by assumption) ?_
  rotate_left 1
  · (intro w hSw; (try dsimp only at hSw); first | (go_simp; done) | (go_simp; with_reducible rfl))
  try simp only [Act.put, List.setIfInBounds_toArray, List.set_cons_zero, List.set_cons_succ, List.getElem_toArray, List.getElem_cons_zero, List.getElem_cons_succ]
  refine wpAnyH_take (i := 4) (v := ?_) rfl (by kernel_rfl) (by kernel_rfl) (by kernel_rfl) (fun _ _ _ h => h) (Or.inl ⟨by rfl, ?_⟩) (by assumption) ?_
  rotate_left 1
  · (intro w hSw; (try dsimp only at hSw); first | (go_simp; done) | (go_simp; with_reducible rfl))
  try simp only [Act.put, List.setIfInBounds_toArray, List.set_cons_zero, List.set_cons_succ, List.getElem_toArray, List.getElem_cons_zero, List.getElem_cons_succ]
  refine wpAnyH_take (i := 5) (v := ?_) rfl (by kernel_rfl) (by kernel_rfl) (by kernel_rfl) (fun _ _ _ h => h) (Or.inl ⟨by rfl, ?_⟩) (by assumption) ?_
  rotate_left 1
  · (intro w hSw; (try dsimp only at hSw); first | (go_simp; done) | (go_simp; with_reducible rfl))
  try simp only [Act.put, List.setIfInBounds_toArray, List.set_cons_zero, List.set_cons_succ, List.getElem_toArray, List.getElem_cons_zero, List.getElem_cons_succ]
  refine wpAnyH_take (i := 6) (v := ?_) rfl (by kernel_rfl) (by kernel_rfl) (by kernel_rfl) (fun _ _ _ h => h) (Or.inl ⟨by rfl, ?_⟩) (by assumption) ?_
  rotate_left 1
  · (intro w hSw; (try dsimp only at hSw); first | (go_simp; done) | (go_simp; with_reducible rfl))
  try simp only [Act.put, List.setIfInBounds_toArray, List.set_cons_zero, List.set_cons_succ, List.getElem_toArray, List.getElem_cons_zero, List.getElem_cons_succ]
  refine wpAnyH_ready (rs := [7]) (by kernel_rfl) (by simp) ?_
  refine AllReadyH.cons rfl (fun K hK => ?_) AllReadyH.nil
  go_simp
  go_at_call 51
  refine (Batch.to_any (HRD.out.below HBD.out) HLL.out).mono ?_
  rintro e wk ⟨vt, rfl, hot, hbt⟩
  have HSL := Lib.hid (Batch.Own.sl hot HRD.out.wf)
  have HBT := Lib.hid (HBD.out.trans (hbt.mono HBD.out.size))
  have HV0 := Lib.hid (fun (g : Nat) (e : vt.ownBlock = some g) => hz g (Nat.le_trans HBD.out.size (World.ownsRow.lt hot g e).1))
  have hs1 := HSS.out wk ((Below.refl w0.heap.size w0).drew.trans hbt)
  have HBT1 : Hid (w.heap.size < wk.heap.size) := Lib.hid (Nat.lt_of_lt_of_le HLT0.out (Nat.le_trans (show w0.heap.size ≤ w0.drew.heap.size from Nat.le_refl _) hbt.size))
  clear hot hbt
  try go_wp2_with fail
  refine hK.out _ _ ?_ (fun hHeld => ?_)
  · ((try dsimp only); exact hs1)
  clear hK K
  try simp only [Act.put, List.setIfInBounds_toArray, List.set_cons_zero, List.set_cons_succ, List.getElem_toArray, List.getElem_cons_zero, List.getElem_cons_succ]
  refine wpAnyH_ready (rs := [8]) (by kernel_rfl) (by simp) ?_
  refine AllReadyH.cons rfl (fun K hK => ?_) AllReadyH.nil
  go_simp
  go_at_call 35
  refine (set_any (hM.below HBT.out) hbn.1 who a hw ha HSL.out hll HV0.out).mono ?_
  rintro e wl ⟨rfl, τ', hm', hs'⟩
  have HP := Lib.hid (show MemP τ w p (setS M who a l) wl from ⟨τ', hm', (Step.of_below HBT.out).trans hs'⟩)
  have hwlt : w.heap.size < wk.heap.size := by have := HB0.out.size; have h1 := HBT1.out; omega
  have hbk := hs'.out w.heap.size hwlt (hz _ (Nat.le_refl _))
  have hs2 : wl.cell? ⟨w.heap.size, 0, none⟩ = some (.int .i64 who) ∧ wl.cell? ⟨w.heap.size, 2, none⟩ = some (.int .i64 a) ∧ wl.cell? ⟨w.heap.size, 4, none⟩ = some (.slice vo vn vc) := ⟨(World.cell?_of_block (w := wk) hbk).trans hs1.1, (World.cell?_of_block (w := wk) hbk).trans hs1.2.1, (World.cell?_of_block (w := wk) hbk).trans hs1.2.2⟩
  clear hm' hs' hbk
  try go_wp2_with fail
  refine hK.out _ _ ?_ (fun hHeld => ?_)
  · ((try dsimp only); exact hs2)
  clear hK K
  try simp only [Act.put, List.setIfInBounds_toArray, List.set_cons_zero, List.set_cons_succ, List.getElem_toArray, List.getElem_cons_zero, List.getElem_cons_succ]
  refine wpAnyH_done (by kernel_rfl) ?_ _
  go_wp2_with fail
  go_ret3
  exact ⟨_, rfl, Batch.Sl.nil _, nil_own, HP.out⟩
end Go.Proofs.Ytneegocbknkhjaa.Mm
