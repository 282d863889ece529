/-
  THE LIBRARY's slices.Repeat of one number.
-/
import Derived.Test.YtdbaacalfbbdiaaGreatDoorGMem
import Derived.Test.YtdbaacalfbbdiaaGreatDoorShelf
import Derived.WalkKit
import Derived.WalkLawsBesides
import Derived.WalkSpells
import Derived.WalkSmall
import Derived.StillTactics
import Derived.StillTailTactics
import Derived.Laws.CopyOwn
import Derived.Deep.RegionLaw
import Derived.Deep.LoopGhost
import Derived.IntWalk
import Derived.Outline
namespace Go.Proofs.YtdbaacalfbbdiaaGreatDoor.Gr
open Go.RowKit
set_option linter.unusedVariables false

theorem mul_any (n : Nat) (h : n ≤ 64) (w : World) : Calls Tryz.prog 127 #[.int .u64 1, .int .u64 (n : Int)] w fun e w' => e = .returned (.tuple #[.int .u64 0, .int .u64 (n : Int)]) ∧ w = w' := by
  have h1 : 1 * n / 18446744073709551616 = 0 := by omega
  have h2 : 1 * n % 18446744073709551616 = n := by omega
  refine (Tryz.bits_Mul 1 n (by decide) (by omega) w).mono fun e w' ⟨he, hw⟩ => ⟨?_, hw.symm⟩
  rw [he, h1, h2]
  rfl
theorem made_list (z : Value) (n : Nat) : madeCells #[z] n = (List.replicate n z).toArray := by
  apply Array.ext
  · simp [size_madeCells]
  · intro i h1 h2
    simp [madeCells, Nat.mod_one]
def rep (x : Int) (n k : Nat) : List Value := List.replicate k (.int .u64 x) ++ List.replicate (n - k) (.int .u64 0)
theorem rep_length {x : Int} {n k : Nat} (h : k ≤ n) : (rep x n k).length = n := by unfold rep; simp; omega
theorem rep_zero (x : Int) (n : Nat) : rep x n 0 = List.replicate n (.int .u64 0) := by unfold rep; simp
theorem rep_splice {x : Int} {n k m : Nat} (h : k + m ≤ n) : splice (rep x n k) k (List.replicate m (.int .u64 x)) = rep x n (k + m) := by
  unfold splice rep
  rw [List.take_append_of_le_length (by simp), List.take_of_length_le (by simp), List.drop_append, List.drop_of_length_le (by simp), List.length_replicate, List.length_replicate, List.drop_replicate, List.nil_append, ← List.append_assoc, List.replicate_append_replicate]
  congr 2
  omega
theorem rep_at {x : Int} {n k j : Nat} (hj : j < k) (h : k ≤ n) : (rep x n k)[j]? = some (.int .u64 x) := by
  unfold rep
  rw [List.getElem?_append_left (by simpa using hj), List.getElem?_replicate, if_pos hj]
theorem rep_row {w : World} {b : Nat} {T : TypeId} {x : Int} {n : Nat} (h : w.heap[b]? = some (.cells (rep x n n).toArray T (0, 0))) : w.rowIs b T n (fun _ => .int .u64 x) := by
  refine ⟨_, h, by simpa using rep_length (Nat.le_refl n), fun i hi => ?_⟩
  rw [List.getElem?_toArray]
  exact rep_at hi (Nat.le_refl n)

set_option maxRecDepth 1000000 in
set_option maxHeartbeats 8000000 in
theorem repeat_any {w : World} (g : Nat) (x : Int) (n : Nat) (h0 : 1 ≤ n) (h1 : n ≤ 64) (hc : w.cell? ⟨g, 0, none⟩ = some (.int .u64 x)) :
    Calls Tryz.prog 105 #[.slice (some ⟨g, 0, none⟩) 1 1, .int .i64 (n : Int)] w fun e w' => ∃ b, e = .returned (.slice (some ⟨b, 0, none⟩) n n) ∧ w.heap.size ≤ b ∧ w'.rowIs b 22 n (fun _ => .int .u64 x) ∧ Below w.heap.size w w' := by
  have hmk := run_make_row' 127 22 (.int .u64 0) 8 Tryz.underlying127 infoU rfl .i64 .i64 n (by omega) (by omega)
  have hglt := Lib.lt_of_cell hc
  have HGLT := Lib.hid hglt
  clear hglt
  have hn1 : (1 : Int) ≤ (n : Int) := by omega
  have hn2 : (n : Int) ≤ 64 := by omega
  go_enter Tryz.func105, Tryz.ntmps105
  have HX1 := Lib.hid (rep_splice (x := x) (n := n) (k := 0) (m := 1) (by omega))
  have HB1 := Lib.hid (show Below w.heap.size w (w.alloc (.cells (rep x n 0).toArray 22)) from (Below.refl _ _).alloc (Nat.le_refl _) _)
  have hmk2 : madeCells #[Value.int .u64 0] n = (rep x n 0).toArray := by rw [made_list, rep_zero]
  have hlen0 := rep_length (x := x) (n := n) (k := 0) (by omega)
  have HL0 := Lib.hid hlen0
  clear hlen0
  go_wp2_with (first
    | (go_at_call 127; refine (mul_any n h1 _).mono ?_; rintro e w' ⟨rfl, rfl⟩)
    | (with_reducible refine wpList_copy_splice rfl (.tmp 31) (.tmp 32) 127 127 rfl 22 Tryz.underlying127 (by kernel_rfl) (some ⟨w.heap.size, 0, none⟩) (some ⟨g, 0, none⟩) n n 1 1 rfl rfl w.heap.size 0 (rep x n 0) 22 ?c0 [.int .u64 x] ?c1 ?c2 ?c3 ?c4 w.heap.size w ?c5 (Nat.le_refl _) ?_))
  case c0 => first | (rw [hmk2]; exact heap_alloc_new w _) | exact heap_alloc_new w _
  case c1 => exact (Nat.min_eq_left h0).symm
  case c2 =>
    intro j v hj
    have hj0 : j = 0 := by
      have := (List.getElem?_eq_some_iff.1 hj).1
      simp at this
      exact this
    subst hj0
    simp at hj
    subst hj
    exact (((Below.refl w.heap.size w).alloc (Nat.le_refl _) _).cell (p := ⟨g, 0, none⟩) HGLT.out).trans hc
  case c3 => rw [HL0.out]; simp; omega
  case c4 => intro v hv; simp at hv; subst hv; rfl
  case c5 => exact (Below.refl _ _).alloc (Nat.le_refl _) _
  intro w2 HG2 hB2
  have HB2 := Lib.hid hB2
  rw [show [Value.int .u64 x] = List.replicate 1 (Value.int .u64 x) from rfl, HX1.out] at HG2
  clear hB2 HB1 HX1 hmk hmk2 HL0
  go_wp2_with fail
  go_loopg [8] n (fun m t wr => ∃ k : Nat, 1 ≤ k ∧ k ≤ n ∧ n - k ≤ m ∧ t = .int .i64 (k : Int) ∧ Hid (wr.heap[w.heap.size]? = some (.cells (rep x n k).toArray 22 (0, 0))) ∧ Below w.heap.size w wr)
  case atStart => exact ⟨1, Nat.le_refl _, h0, by omega, rfl, HG2, HB2.out⟩
  case round =>
    obtain ⟨k, hk1, hkn, hm, rfl, HG, hbw⟩ := hrel
    have HM := Lib.hid hm
    have HBW := Lib.hid hbw
    clear hm hbw
    by_cases hlt : k < n
    · have hlt' : (k : Int) < (n : Int) := by omega
      have hk0 : (0 : Int) ≤ (k : Int) := by omega
      have hkc : ¬ n = k := by omega
      have hkn' : (k : Int) ≤ (n : Int) := by omega
      obtain ⟨c, hc2⟩ : ∃ c : Nat, c = min (n - k) k := ⟨_, rfl⟩
      have hck : k + c ≤ n := by omega
      have hc1 : 1 ≤ c := by omega
      have hsum : IntKind.i64.wrap ((k : Int) + (c : Int)) = ((k + c : Nat) : Int) := by rw [IntWalk.i64_in _ (by omega)]; omega
      have HSP := Lib.hid (rep_splice (x := x) hck)
      have HLN := Lib.hid (rep_length (x := x) hkn)
      have HC := Lib.hid hc2
      clear hc2
      have SRC0 := HG.out
      obtain ⟨cs, HCS⟩ : ∃ cs : List Value, Hid (cs = List.replicate c (.int .u64 x)) := ⟨_, Lib.hid rfl⟩
      have SRC : ∀ (j : Nat) (v : Value), cs[j]? = some v → wr.cell? ((⟨w.heap.size, 0, none⟩ : Addr).add j) = some v := by
        intro j v hj
        rw [HCS.out] at hj
        have hj2 : j < c := by have := (List.getElem?_eq_some_iff.1 hj).1; simpa using this
        rw [List.getElem?_replicate, if_pos hj2] at hj
        obtain rfl := Option.some.inj hj
        have e : ((⟨w.heap.size, 0, none⟩ : Addr).add j) = ⟨w.heap.size, j, none⟩ := by unfold Addr.add; split <;> simp_all
        rw [e]
        have hrep := rep_at (x := x) (n := n) (show j < k by have := HC.out; omega) hkn
        simp [World.cell?, SRC0, hrep]
      clear SRC0
      have hcsl : cs.length = c := by rw [HCS.out]; simp
      go_wp2_with fail
      go_region_law (refine step_copy_splice rfl (.tmp 41) (.tmp 44) 127 127 rfl 22 Tryz.underlying127 (by kernel_rfl) _ _ _ _ _ _ (by rfl) (by rfl) w.heap.size k (rep x n k) 22 HG.out cs (by rw [hcsl, HC.out]; exact Nat.min_comm _ _) (by intro _; exact ⟨rfl, _, rfl, fun j v hj => SRC j v hj⟩) (by rw [HLN.out, hcsl]; omega) (by intro v hv; rw [HCS.out] at hv; rw [(List.mem_replicate.1 hv).2]; rfl) w.heap.size w HBW.out.drew (Nat.le_refl _) ?_; intro w4 hg4 hb4)
      have HB4 := Lib.hid hb4
      rw [HCS.out, HSP.out] at hg4
      clear hb4
      go_wp2_with fail
      go_roundg (n - (k + c))
      case measure => have := HM.out; omega
      case rel => exact ⟨k + c, by omega, by omega, by omega, by first | rfl | (rw [hsum]) | go_num, hg4, HB4.out⟩
    · obtain rfl : k = n := by omega
      have HR := Lib.hid (rep_row HG.out)
      go_wp2_with fail
      go_ret
      exact ⟨_, rfl, Nat.le_refl _, HR.out, HBW.out⟩
end Go.Proofs.YtdbaacalfbbdiaaGreatDoor.Gr
