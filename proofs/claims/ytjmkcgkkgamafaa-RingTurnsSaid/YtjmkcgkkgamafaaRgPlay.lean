/-
  PACKAGE ring: Step, by how many accesses were made.
-/
import Derived.Test.YtjmkcgkkgamafaaRgPushs
namespace Go.Proofs.Ytjmkcgkkgamafaa.Rg
open Go.RowKit Rw Pk Go.Maps Mm
set_option linter.unusedVariables false
section
variable {w w' : World} {R : Ri} {A : Ac} {n a r : Nat} {w0 wr : World} {fs zs : List Nat} {l : List Batch.Ch} {M M' : Mm.St} {a0 b0 c0 k : Nat}
theorem rgstep_push1 (h : Rg n w0 wr fs zs a r R A l M w) (hacc : A.acc = 0) (hp : A.pops = false) (hok : A.okk = false) (hov : A.ov = false) (hsp : M.sp A.who = false) (hG : Mm.Good a0 b0 c0 k M) (ha : a0 ≤ 65536) (hb : b0 ≤ 65536) (hc : c0 ≤ 65536) (hk : k ≤ 100000) (hwho : I64 A.who) (hwd : 0 ≤ R.wd ∧ R.wd ≤ 1000) (hlen : (Mm.lookS M A.who 0 R.wd).lg.length = M.lg.length + 1) :
    Calls Try.prog 28 #[.pointer (some ⟨a, 0, none⟩)] w fun e w' => e = .returned (.bool (false)) ∧ Rg n w0 wr fs zs a r (endR (false) R { { A with acc := A.acc + 1 } with pu := Mm.loadV M A.who R.wd }) (endA (false) { { A with acc := A.acc + 1 } with pu := Mm.loadV M A.who R.wd } ((Mm.lookS M A.who 0 R.wd).lg.length : Int)) (endL (false) { { A with acc := A.acc + 1 } with pu := Mm.loadV M A.who R.wd } (l)) (Mm.lookS M A.who 0 R.wd) w' := by
  have hl6 : M.lg.length ≤ 1000000 := by have := hG.l; omega
  refine (rgstep_any h hov hsp hwho hl6 (Q := fun x A' l' M' zs' => x = (false) ∧ A' = { { A with acc := A.acc + 1 } with pu := Mm.loadV M A.who R.wd } ∧ l' = (l) ∧ M' = (Mm.lookS M A.who 0 R.wd) ∧ zs' = zs) ?_ ?_).mono ?_
  · intro w1 hs1 hr1
    refine Calls.mono (rgaccess_any hr1 (by omega) (Q := fun x w'' => ∃ A' l' M' zs', (fun x A' l' M' zs' => x = (false) ∧ A' = { { A with acc := A.acc + 1 } with pu := Mm.loadV M A.who R.wd } ∧ l' = (l) ∧ M' = (Mm.lookS M A.who 0 R.wd) ∧ zs' = zs) x A' l' M' zs' ∧ Rg n w0 wr fs zs' a r R A' l' M' w'') ?_) (fun e w'' hx => hx)
    intro w2 hs2 hr2
    rw [show rgDo A.pops = 99 by rw [hp]; rfl]
    refine (rgpush_1 hr2 (by show A.acc + 1 = _; omega) hG ha hb hc hk hwho hwd).mono ?_
    · rintro e w3 ⟨rfl, hr3⟩
      exact ⟨_, rfl, _, _, _, _, ⟨hok, rfl, rfl, rfl, rfl⟩, hr3⟩
  · rintro x A' l' M' zs' ⟨_, rfl, _, rfl, _⟩
    exact ⟨hlen, hov⟩
  · rintro e w' ⟨x, rfl, A', l', M', zs', ⟨rfl, rfl, rfl, rfl, rfl⟩, hr⟩
    exact ⟨rfl, hr⟩
theorem rgstep_push2 (h : Rg n w0 wr fs zs a r R A l M w) (hacc : A.acc = 1) (hp : A.pops = false) (hok : A.okk = false) (hov : A.ov = false) (hsp : M.sp A.who = false) (hG : Mm.Good a0 b0 c0 k M) (ha : a0 ≤ 65536) (hb : b0 ≤ 65536) (hc : c0 ≤ 65536) (hk : k ≤ 100000) (hwho : I64 A.who) (hwd : 0 ≤ R.wd ∧ R.wd ≤ 1000) (hx : 0 ≤ Mm.loadV M A.who (R.wd + 1) ∧ Mm.loadV M A.who (R.wd + 1) ≤ A.pu ∧ A.pu ≤ 1000000) (hlen : (Mm.lookS M A.who 0 (R.wd + 1)).lg.length = M.lg.length + 1) :
    Calls Try.prog 28 #[.pointer (some ⟨a, 0, none⟩)] w fun e w' => e = .returned (.bool (decide (R.sz ≤ A.pu - Mm.loadV M A.who (R.wd + 1)))) ∧ Rg n w0 wr fs zs a r (endR (decide (R.sz ≤ A.pu - Mm.loadV M A.who (R.wd + 1))) R { { A with acc := A.acc + 1 } with po := Mm.loadV M A.who (R.wd + 1) }) (endA (decide (R.sz ≤ A.pu - Mm.loadV M A.who (R.wd + 1))) { { A with acc := A.acc + 1 } with po := Mm.loadV M A.who (R.wd + 1) } ((Mm.lookS M A.who 0 (R.wd + 1)).lg.length : Int)) (endL (decide (R.sz ≤ A.pu - Mm.loadV M A.who (R.wd + 1))) { { A with acc := A.acc + 1 } with po := Mm.loadV M A.who (R.wd + 1) } (l)) (Mm.lookS M A.who 0 (R.wd + 1)) w' := by
  have hl6 : M.lg.length ≤ 1000000 := by have := hG.l; omega
  refine (rgstep_any h hov hsp hwho hl6 (Q := fun x A' l' M' zs' => x = (decide (R.sz ≤ A.pu - Mm.loadV M A.who (R.wd + 1))) ∧ A' = { { A with acc := A.acc + 1 } with po := Mm.loadV M A.who (R.wd + 1) } ∧ l' = (l) ∧ M' = (Mm.lookS M A.who 0 (R.wd + 1)) ∧ zs' = zs) ?_ ?_).mono ?_
  · intro w1 hs1 hr1
    refine Calls.mono (rgaccess_any hr1 (by omega) (Q := fun x w'' => ∃ A' l' M' zs', (fun x A' l' M' zs' => x = (decide (R.sz ≤ A.pu - Mm.loadV M A.who (R.wd + 1))) ∧ A' = { { A with acc := A.acc + 1 } with po := Mm.loadV M A.who (R.wd + 1) } ∧ l' = (l) ∧ M' = (Mm.lookS M A.who 0 (R.wd + 1)) ∧ zs' = zs) x A' l' M' zs' ∧ Rg n w0 wr fs zs' a r R A' l' M' w'') ?_) (fun e w'' hx => hx)
    intro w2 hs2 hr2
    rw [show rgDo A.pops = 99 by rw [hp]; rfl]
    refine (rgpush_2 hr2 (by show A.acc + 1 = _; omega) hG ha hb hc hk hwho hwd hx).mono ?_
    · rintro e w3 ⟨rfl, hr3⟩
      exact ⟨_, rfl, _, _, _, _, ⟨rfl, rfl, rfl, rfl, rfl⟩, hr3⟩
  · rintro x A' l' M' zs' ⟨_, rfl, _, rfl, _⟩
    exact ⟨hlen, hov⟩
  · rintro e w' ⟨x, rfl, A', l', M', zs', ⟨rfl, rfl, rfl, rfl, rfl⟩, hr⟩
    exact ⟨rfl, hr⟩
theorem rgstep_push3 (h : Rg n w0 wr fs zs a r R A l M w) (hacc : A.acc = 2) (hp : A.pops = false) (hok : A.okk = false) (hov : A.ov = false) (hsp : M.sp A.who = false) (hG : Mm.Good a0 b0 c0 k M) (ha : a0 ≤ 65536) (hb : b0 ≤ 65536) (hc : c0 ≤ 65536) (hk : k ≤ 100000) (hwho : I64 A.who) (hwd : 0 ≤ R.wd ∧ R.wd ≤ 1000) (hx : 0 ≤ A.pu ∧ 1 ≤ R.sz ∧ R.sz ≤ 64 ∧ 0 ≤ R.bx ∧ R.bx ≤ 1000) (hl : l.length ≤ 1000) (hlen : (Mm.setS M A.who (R.bx + A.pu % R.sz) l).lg.length = M.lg.length + 1) :
    Calls Try.prog 28 #[.pointer (some ⟨a, 0, none⟩)] w fun e w' => e = .returned (.bool (false)) ∧ Rg n w0 wr fs zs a r (endR (false) R { { A with acc := A.acc + 1 } with bv := A.bv }) (endA (false) { { A with acc := A.acc + 1 } with bv := A.bv } ((Mm.setS M A.who (R.bx + A.pu % R.sz) l).lg.length : Int)) (endL (false) { { A with acc := A.acc + 1 } with bv := A.bv } (l)) (Mm.setS M A.who (R.bx + A.pu % R.sz) l) w' := by
  have hl6 : M.lg.length ≤ 1000000 := by have := hG.l; omega
  refine (rgstep_any h hov hsp hwho hl6 (Q := fun x A' l' M' zs' => x = (false) ∧ A' = { { A with acc := A.acc + 1 } with bv := A.bv } ∧ l' = (l) ∧ M' = (Mm.setS M A.who (R.bx + A.pu % R.sz) l) ∧ zs' = zs) ?_ ?_).mono ?_
  · intro w1 hs1 hr1
    refine Calls.mono (rgaccess_any hr1 (by omega) (Q := fun x w'' => ∃ A' l' M' zs', (fun x A' l' M' zs' => x = (false) ∧ A' = { { A with acc := A.acc + 1 } with bv := A.bv } ∧ l' = (l) ∧ M' = (Mm.setS M A.who (R.bx + A.pu % R.sz) l) ∧ zs' = zs) x A' l' M' zs' ∧ Rg n w0 wr fs zs' a r R A' l' M' w'') ?_) (fun e w'' hx => hx)
    intro w2 hs2 hr2
    rw [show rgDo A.pops = 99 by rw [hp]; rfl]
    refine (rgpush_3 hr2 (by show A.acc + 1 = _; omega) hG ha hb hc hk hwho hwd hx hl).mono ?_
    · rintro e w3 ⟨rfl, hr3⟩
      exact ⟨_, rfl, _, _, _, _, ⟨hok, rfl, rfl, rfl, rfl⟩, hr3⟩
  · rintro x A' l' M' zs' ⟨_, rfl, _, rfl, _⟩
    exact ⟨hlen, hov⟩
  · rintro e w' ⟨x, rfl, A', l', M', zs', ⟨rfl, rfl, rfl, rfl, rfl⟩, hr⟩
    exact ⟨rfl, hr⟩
theorem rgstep_push4 (h : Rg n w0 wr fs zs a r R A l M w) (hacc : A.acc = 3) (hp : A.pops = false) (hok : A.okk = false) (hov : A.ov = false) (hsp : M.sp A.who = false) (hG : Mm.Good a0 b0 c0 k M) (ha : a0 ≤ 65536) (hb : b0 ≤ 65536) (hc : c0 ≤ 65536) (hk : k ≤ 100000) (hwho : I64 A.who) (hwd : 0 ≤ R.wd ∧ R.wd ≤ 1000) (hx : 0 ≤ A.pu ∧ A.pu ≤ 1000000) (hlen : (Mm.storeS M A.who R.wd (A.pu + 1)).lg.length = M.lg.length + 1) :
    Calls Try.prog 28 #[.pointer (some ⟨a, 0, none⟩)] w fun e w' => e = .returned (.bool (true)) ∧ Rg n w0 wr fs zs a r (endR (true) R { { A with acc := A.acc + 1 } with okk := true }) (endA (true) { { A with acc := A.acc + 1 } with okk := true } ((Mm.storeS M A.who R.wd (A.pu + 1)).lg.length : Int)) (endL (true) { { A with acc := A.acc + 1 } with okk := true } (l)) (Mm.storeS M A.who R.wd (A.pu + 1)) w' := by
  have hl6 : M.lg.length ≤ 1000000 := by have := hG.l; omega
  refine (rgstep_any h hov hsp hwho hl6 (Q := fun x A' l' M' zs' => x = (true) ∧ A' = { { A with acc := A.acc + 1 } with okk := true } ∧ l' = (l) ∧ M' = (Mm.storeS M A.who R.wd (A.pu + 1)) ∧ zs' = zs) ?_ ?_).mono ?_
  · intro w1 hs1 hr1
    refine Calls.mono (rgaccess_any hr1 (by omega) (Q := fun x w'' => ∃ A' l' M' zs', (fun x A' l' M' zs' => x = (true) ∧ A' = { { A with acc := A.acc + 1 } with okk := true } ∧ l' = (l) ∧ M' = (Mm.storeS M A.who R.wd (A.pu + 1)) ∧ zs' = zs) x A' l' M' zs' ∧ Rg n w0 wr fs zs' a r R A' l' M' w'') ?_) (fun e w'' hx => hx)
    intro w2 hs2 hr2
    rw [show rgDo A.pops = 99 by rw [hp]; rfl]
    refine (rgpush_4 hr2 (by show A.acc + 1 = _; omega) hG ha hb hc hk hwho hwd hx).mono ?_
    · rintro e w3 ⟨rfl, hr3⟩
      exact ⟨_, rfl, _, _, _, _, ⟨rfl, rfl, rfl, rfl, rfl⟩, hr3⟩
  · rintro x A' l' M' zs' ⟨_, rfl, _, rfl, _⟩
    exact ⟨hlen, hov⟩
  · rintro e w' ⟨x, rfl, A', l', M', zs', ⟨rfl, rfl, rfl, rfl, rfl⟩, hr⟩
    exact ⟨rfl, hr⟩
theorem rgstep_pop1 (h : Rg n w0 wr fs zs a r R A l M w) (hacc : A.acc = 0) (hp : A.pops = true) (hok : A.okk = false) (hov : A.ov = false) (hsp : M.sp A.who = false) (hG : Mm.Good a0 b0 c0 k M) (ha : a0 ≤ 65536) (hb : b0 ≤ 65536) (hc : c0 ≤ 65536) (hk : k ≤ 100000) (hwho : I64 A.who) (hwd : 0 ≤ R.wd ∧ R.wd ≤ 1000) (hlen : (Mm.lookS M A.who 0 (R.wd + 1)).lg.length = M.lg.length + 1) :
    Calls Try.prog 28 #[.pointer (some ⟨a, 0, none⟩)] w fun e w' => e = .returned (.bool (false)) ∧ Rg n w0 wr fs zs a r (endR (false) R { { A with acc := A.acc + 1 } with po := Mm.loadV M A.who (R.wd + 1) }) (endA (false) { { A with acc := A.acc + 1 } with po := Mm.loadV M A.who (R.wd + 1) } ((Mm.lookS M A.who 0 (R.wd + 1)).lg.length : Int)) (endL (false) { { A with acc := A.acc + 1 } with po := Mm.loadV M A.who (R.wd + 1) } (l)) (Mm.lookS M A.who 0 (R.wd + 1)) w' := by
  have hl6 : M.lg.length ≤ 1000000 := by have := hG.l; omega
  refine (rgstep_any h hov hsp hwho hl6 (Q := fun x A' l' M' zs' => x = (false) ∧ A' = { { A with acc := A.acc + 1 } with po := Mm.loadV M A.who (R.wd + 1) } ∧ l' = (l) ∧ M' = (Mm.lookS M A.who 0 (R.wd + 1)) ∧ zs' = zs) ?_ ?_).mono ?_
  · intro w1 hs1 hr1
    refine Calls.mono (rgaccess_any hr1 (by omega) (Q := fun x w'' => ∃ A' l' M' zs', (fun x A' l' M' zs' => x = (false) ∧ A' = { { A with acc := A.acc + 1 } with po := Mm.loadV M A.who (R.wd + 1) } ∧ l' = (l) ∧ M' = (Mm.lookS M A.who 0 (R.wd + 1)) ∧ zs' = zs) x A' l' M' zs' ∧ Rg n w0 wr fs zs' a r R A' l' M' w'') ?_) (fun e w'' hx => hx)
    intro w2 hs2 hr2
    rw [show rgDo A.pops = 98 by rw [hp]; rfl]
    refine (rgpop_1 hr2 (by show A.acc + 1 = _; omega) hG ha hb hc hk hwho hwd).mono ?_
    · rintro e w3 ⟨rfl, hr3⟩
      exact ⟨_, rfl, _, _, _, _, ⟨hok, rfl, rfl, rfl, rfl⟩, hr3⟩
  · rintro x A' l' M' zs' ⟨_, rfl, _, rfl, _⟩
    exact ⟨hlen, hov⟩
  · rintro e w' ⟨x, rfl, A', l', M', zs', ⟨rfl, rfl, rfl, rfl, rfl⟩, hr⟩
    exact ⟨rfl, hr⟩
theorem rgstep_pop2 (h : Rg n w0 wr fs zs a r R A l M w) (hacc : A.acc = 1) (hp : A.pops = true) (hok : A.okk = false) (hov : A.ov = false) (hsp : M.sp A.who = false) (hG : Mm.Good a0 b0 c0 k M) (ha : a0 ≤ 65536) (hb : b0 ≤ 65536) (hc : c0 ≤ 65536) (hk : k ≤ 100000) (hwho : I64 A.who) (hwd : 0 ≤ R.wd ∧ R.wd ≤ 1000) (hlen : (Mm.lookS M A.who 0 R.wd).lg.length = M.lg.length + 1) :
    Calls Try.prog 28 #[.pointer (some ⟨a, 0, none⟩)] w fun e w' => e = .returned (.bool (decide (Mm.loadV M A.who R.wd = A.po))) ∧ Rg n w0 wr fs zs a r (endR (decide (Mm.loadV M A.who R.wd = A.po)) R { { A with acc := A.acc + 1 } with pu := Mm.loadV M A.who R.wd }) (endA (decide (Mm.loadV M A.who R.wd = A.po)) { { A with acc := A.acc + 1 } with pu := Mm.loadV M A.who R.wd } ((Mm.lookS M A.who 0 R.wd).lg.length : Int)) (endL (decide (Mm.loadV M A.who R.wd = A.po)) { { A with acc := A.acc + 1 } with pu := Mm.loadV M A.who R.wd } (l)) (Mm.lookS M A.who 0 R.wd) w' := by
  have hl6 : M.lg.length ≤ 1000000 := by have := hG.l; omega
  refine (rgstep_any h hov hsp hwho hl6 (Q := fun x A' l' M' zs' => x = (decide (Mm.loadV M A.who R.wd = A.po)) ∧ A' = { { A with acc := A.acc + 1 } with pu := Mm.loadV M A.who R.wd } ∧ l' = (l) ∧ M' = (Mm.lookS M A.who 0 R.wd) ∧ zs' = zs) ?_ ?_).mono ?_
  · intro w1 hs1 hr1
    refine Calls.mono (rgaccess_any hr1 (by omega) (Q := fun x w'' => ∃ A' l' M' zs', (fun x A' l' M' zs' => x = (decide (Mm.loadV M A.who R.wd = A.po)) ∧ A' = { { A with acc := A.acc + 1 } with pu := Mm.loadV M A.who R.wd } ∧ l' = (l) ∧ M' = (Mm.lookS M A.who 0 R.wd) ∧ zs' = zs) x A' l' M' zs' ∧ Rg n w0 wr fs zs' a r R A' l' M' w'') ?_) (fun e w'' hx => hx)
    intro w2 hs2 hr2
    rw [show rgDo A.pops = 98 by rw [hp]; rfl]
    refine (rgpop_2 hr2 (by show A.acc + 1 = _; omega) hG ha hb hc hk hwho hwd).mono ?_
    · rintro e w3 ⟨rfl, hr3⟩
      exact ⟨_, rfl, _, _, _, _, ⟨rfl, rfl, rfl, rfl, rfl⟩, hr3⟩
  · rintro x A' l' M' zs' ⟨_, rfl, _, rfl, _⟩
    exact ⟨hlen, hov⟩
  · rintro e w' ⟨x, rfl, A', l', M', zs', ⟨rfl, rfl, rfl, rfl, rfl⟩, hr⟩
    exact ⟨rfl, hr⟩
theorem rgstep_pop3 (h : Rg n w0 wr fs zs a r R A l M w) (hacc : A.acc = 2) (hp : A.pops = true) (hok : A.okk = false) (hov : A.ov = false) (hsp : M.sp A.who = false) (hG : Mm.Good a0 b0 c0 k M) (ha : a0 ≤ 65536) (hb : b0 ≤ 65536) (hc : c0 ≤ 65536) (hk : k ≤ 100000) (hwho : I64 A.who) (hwd : 0 ≤ R.wd ∧ R.wd ≤ 1000) (hx : 0 ≤ A.po ∧ 1 ≤ R.sz ∧ R.sz ≤ 64 ∧ 0 ≤ R.bx ∧ R.bx ≤ 1000) (hlen : (Mm.lookS M A.who 2 (R.bx + A.po % R.sz)).lg.length = M.lg.length + 1) :
    Calls Try.prog 28 #[.pointer (some ⟨a, 0, none⟩)] w fun e w' => e = .returned (.bool (false)) ∧ ∃ v zs', (∀ j ∈ zs, j ∈ zs') ∧ (∀ j ∈ zs', j ∈ zs ∨ w.heap.size ≤ j) ∧ Rg n w0 wr fs zs' a r R { { A with acc := A.acc + 1 } with bv := v } (Mm.getV M A.who (R.bx + A.po % R.sz)) (Mm.lookS M A.who 2 (R.bx + A.po % R.sz)) w' := by
  have hl6 : M.lg.length ≤ 1000000 := by have := hG.l; omega
  refine (rgstep_any h hov hsp hwho hl6 (Q := fun x A' l' M' zs' => x = (false) ∧ (∃ v, A' = { { A with acc := A.acc + 1 } with bv := v }) ∧ l' = (Mm.getV M A.who (R.bx + A.po % R.sz)) ∧ M' = (Mm.lookS M A.who 2 (R.bx + A.po % R.sz)) ∧ (∀ j ∈ zs, j ∈ zs') ∧ (∀ j ∈ zs', j ∈ zs ∨ w.heap.size ≤ j)) ?_ ?_).mono ?_
  · intro w1 hs1 hr1
    refine Calls.mono (rgaccess_any hr1 (by omega) (Q := fun x w'' => ∃ A' l' M' zs', (fun x A' l' M' zs' => x = (false) ∧ (∃ v, A' = { { A with acc := A.acc + 1 } with bv := v }) ∧ l' = (Mm.getV M A.who (R.bx + A.po % R.sz)) ∧ M' = (Mm.lookS M A.who 2 (R.bx + A.po % R.sz)) ∧ (∀ j ∈ zs, j ∈ zs') ∧ (∀ j ∈ zs', j ∈ zs ∨ w.heap.size ≤ j)) x A' l' M' zs' ∧ Rg n w0 wr fs zs' a r R A' l' M' w'') ?_) (fun e w'' hx => hx)
    intro w2 hs2 hr2
    rw [show rgDo A.pops = 98 by rw [hp]; rfl]
    refine (rgpop_3 hr2 (by show A.acc + 1 = _; omega) hG ha hb hc hk hwho hwd hx).mono ?_
    · rintro e w3 ⟨rfl, v, zs', z1, z2, hr3⟩
      exact ⟨_, rfl, _, _, _, zs', ⟨hok, ⟨v, rfl⟩, rfl, rfl, z1, fun j hj => (z2 j hj).imp id (fun h => by omega)⟩, hr3⟩
  · rintro x A' l' M' zs' ⟨_, ⟨v, rfl⟩, _, rfl, _⟩
    exact ⟨hlen, hov⟩
  · rintro e w' ⟨x, rfl, A', l', M', zs', ⟨rfl, ⟨v, rfl⟩, rfl, rfl, z1, z2⟩, hr⟩
    exact ⟨rfl, v, zs', z1, z2, hr⟩
theorem rgstep_pop4 (h : Rg n w0 wr fs zs a r R A l M w) (hacc : A.acc = 3) (hp : A.pops = true) (hok : A.okk = false) (hov : A.ov = false) (hsp : M.sp A.who = false) (hG : Mm.Good a0 b0 c0 k M) (ha : a0 ≤ 65536) (hb : b0 ≤ 65536) (hc : c0 ≤ 65536) (hk : k ≤ 100000) (hwho : I64 A.who) (hwd : 0 ≤ R.wd ∧ R.wd ≤ 1000) (hx : 0 ≤ A.po ∧ 1 ≤ R.sz ∧ R.sz ≤ 64 ∧ 0 ≤ R.bx ∧ R.bx ≤ 1000) (hlen : (Mm.setS M A.who (R.bx + A.po % R.sz) []).lg.length = M.lg.length + 1) :
    Calls Try.prog 28 #[.pointer (some ⟨a, 0, none⟩)] w fun e w' => e = .returned (.bool (false)) ∧ Rg n w0 wr fs zs a r (endR (false) R { { A with acc := A.acc + 1 } with bv := A.bv }) (endA (false) { { A with acc := A.acc + 1 } with bv := A.bv } ((Mm.setS M A.who (R.bx + A.po % R.sz) []).lg.length : Int)) (endL (false) { { A with acc := A.acc + 1 } with bv := A.bv } (l)) (Mm.setS M A.who (R.bx + A.po % R.sz) []) w' := by
  have hl6 : M.lg.length ≤ 1000000 := by have := hG.l; omega
  refine (rgstep_any h hov hsp hwho hl6 (Q := fun x A' l' M' zs' => x = (false) ∧ A' = { { A with acc := A.acc + 1 } with bv := A.bv } ∧ l' = (l) ∧ M' = (Mm.setS M A.who (R.bx + A.po % R.sz) []) ∧ zs' = zs) ?_ ?_).mono ?_
  · intro w1 hs1 hr1
    refine Calls.mono (rgaccess_any hr1 (by omega) (Q := fun x w'' => ∃ A' l' M' zs', (fun x A' l' M' zs' => x = (false) ∧ A' = { { A with acc := A.acc + 1 } with bv := A.bv } ∧ l' = (l) ∧ M' = (Mm.setS M A.who (R.bx + A.po % R.sz) []) ∧ zs' = zs) x A' l' M' zs' ∧ Rg n w0 wr fs zs' a r R A' l' M' w'') ?_) (fun e w'' hx => hx)
    intro w2 hs2 hr2
    rw [show rgDo A.pops = 98 by rw [hp]; rfl]
    refine (rgpop_4 hr2 (by show A.acc + 1 = _; omega) hG ha hb hc hk hwho hwd hx).mono ?_
    · rintro e w3 ⟨rfl, hr3⟩
      exact ⟨_, rfl, _, _, _, _, ⟨hok, rfl, rfl, rfl, rfl⟩, hr3⟩
  · rintro x A' l' M' zs' ⟨_, rfl, _, rfl, _⟩
    exact ⟨hlen, hov⟩
  · rintro e w' ⟨x, rfl, A', l', M', zs', ⟨rfl, rfl, rfl, rfl, rfl⟩, hr⟩
    exact ⟨rfl, hr⟩
theorem rgstep_pop5 (h : Rg n w0 wr fs zs a r R A l M w) (hacc : A.acc = 4) (hp : A.pops = true) (hok : A.okk = false) (hov : A.ov = false) (hsp : M.sp A.who = false) (hG : Mm.Good a0 b0 c0 k M) (ha : a0 ≤ 65536) (hb : b0 ≤ 65536) (hc : c0 ≤ 65536) (hk : k ≤ 100000) (hwho : I64 A.who) (hwd : 0 ≤ R.wd ∧ R.wd ≤ 1000) (hx : 0 ≤ A.po ∧ A.po ≤ 1000000) (hlen : (Mm.storeS M A.who (R.wd + 1) (A.po + 1)).lg.length = M.lg.length + 1) :
    Calls Try.prog 28 #[.pointer (some ⟨a, 0, none⟩)] w fun e w' => e = .returned (.bool (true)) ∧ Rg n w0 wr fs zs a r (endR (true) R { { A with acc := A.acc + 1 } with okk := true }) (endA (true) { { A with acc := A.acc + 1 } with okk := true } ((Mm.storeS M A.who (R.wd + 1) (A.po + 1)).lg.length : Int)) (endL (true) { { A with acc := A.acc + 1 } with okk := true } (l)) (Mm.storeS M A.who (R.wd + 1) (A.po + 1)) w' := by
  have hl6 : M.lg.length ≤ 1000000 := by have := hG.l; omega
  refine (rgstep_any h hov hsp hwho hl6 (Q := fun x A' l' M' zs' => x = (true) ∧ A' = { { A with acc := A.acc + 1 } with okk := true } ∧ l' = (l) ∧ M' = (Mm.storeS M A.who (R.wd + 1) (A.po + 1)) ∧ zs' = zs) ?_ ?_).mono ?_
  · intro w1 hs1 hr1
    refine Calls.mono (rgaccess_any hr1 (by omega) (Q := fun x w'' => ∃ A' l' M' zs', (fun x A' l' M' zs' => x = (true) ∧ A' = { { A with acc := A.acc + 1 } with okk := true } ∧ l' = (l) ∧ M' = (Mm.storeS M A.who (R.wd + 1) (A.po + 1)) ∧ zs' = zs) x A' l' M' zs' ∧ Rg n w0 wr fs zs' a r R A' l' M' w'') ?_) (fun e w'' hx => hx)
    intro w2 hs2 hr2
    rw [show rgDo A.pops = 98 by rw [hp]; rfl]
    refine (rgpop_5 hr2 (by show A.acc + 1 = _; omega) hG ha hb hc hk hwho hwd hx).mono ?_
    · rintro e w3 ⟨rfl, hr3⟩
      exact ⟨_, rfl, _, _, _, _, ⟨rfl, rfl, rfl, rfl, rfl⟩, hr3⟩
  · rintro x A' l' M' zs' ⟨_, rfl, _, rfl, _⟩
    exact ⟨hlen, hov⟩
  · rintro e w' ⟨x, rfl, A', l', M', zs', ⟨rfl, rfl, rfl, rfl, rfl⟩, hr⟩
    exact ⟨rfl, hr⟩
end
end Go.Proofs.Ytjmkcgkkgamafaa.Rg
