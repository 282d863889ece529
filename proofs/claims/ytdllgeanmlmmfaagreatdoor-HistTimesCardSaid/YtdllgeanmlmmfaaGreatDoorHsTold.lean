/-
  marchlandlaw15: told.
-/
import Derived.Test.YtdllgeanmlmmfaaGreatDoorHsCheck
import Derived.Test.YtdllgeanmlmmfaaGreatDoorJoined13
import Derived.Test.YtdllgeanmlmmfaaGreatDoorJoined14
namespace Go.Proofs.YtdllgeanmlmmfaaGreatDoor.Hs
open Go.RowKit Gr Md
set_option linter.unusedVariables false
set_option linter.unusedSimpArgs false

/-- Who shuts it; who waits. -/
def sE : En := { who := 0, beg := 0, mark := 2, fin := 2, kind := 7, owho := 0, hand := 0, port := 0, time := 0, la := none, ln := 0, lc := 0, way := 0, n := 0, err := 0, ta := none, tn := 0, tc := 0 }
def wE (m : Int) : En := { who := 1, beg := 0, mark := m, fin := 4, kind := 6, owho := 1, hand := 0, port := 0, time := 0, la := none, ln := 0, lc := 0, way := 0, n := 0, err := 8, ta := none, tn := 0, tc := 0 }
abbrev TS := (Nat → Nat → Int) × Bool
def tPr (s : TS) : Ms := { newM 1 2 1 [0] s.1 with cl := s.2 }
def tStep (L : List En) (s : TS) (i : Nat) : TS := if (L[i]?.map (·.kind)).getD 0 = 7 then (s.1, true) else s
def tGood (L : List En) (s : TS) (i : Nat) : Bool := if (L[i]?.map (·.kind)).getD 0 = 7 then true else s.2
theorem newM_th (M : Nat → Nat → Int) : (newM 1 2 1 [0] M).th.length = 2 := rfl
theorem told_sem (w0 : World) (L : List En) (hL : ∀ x ∈ L, x = sE ∨ ∃ m, x = wE m) : DoSem w0 L tPr (fun _ => True) (tStep L) (tGood L) := by
  intro s i x τ w b _ hx _ _ _ hm
  rcases hL x (List.mem_of_getElem? hx) with rfl | ⟨m, rfl⟩
  · refine (mdI_shut hm 0 0 0 0 none 0 0 0 ⟨by decide, by show (0 : Int) < ((2 : Nat) : Int); decide⟩).mono ?_
    rintro e w' ⟨rfl, h1, h2⟩
    have e1 : tStep L s i = (s.1, true) := by unfold tStep; rw [hx]; rfl
    have e2 : tGood L s i = true := by unfold tGood; rw [hx]; rfl
    rw [e1, e2]
    exact ⟨0, 0, none, 0, 0, τ, rfl, h1, h2, trivial, fun W _ => mdSame_none 0 0 0 0 none none 0 0 W⟩
  · refine (mdI_wait hm 1 0 0 0 none 0 0 0 ⟨by decide, by show (1 : Int) < ((2 : Nat) : Int); decide⟩ (by show (1 : Nat) ≤ 64; decide)).mono ?_
    rintro e w' ⟨rfl, h1, h2⟩
    have e1 : tStep L s i = s := by unfold tStep; rw [hx]; rfl
    have e2 : tGood L s i = s.2 := by unfold tGood; rw [hx]; rfl
    rw [e1, e2]
    refine ⟨_, _, none, 0, 0, τ, rfl, h1, h2, trivial, fun W _ => (mdSame_none _ _ 0 8 none none 0 0 W).mono ?_⟩
    rintro e W' ⟨rfl, hb⟩
    refine ⟨?_, hb⟩
    obtain ⟨M, cl⟩ := s
    cases cl <;> rfl
theorem perm2 {l : List Nat} (h : l.Perm [0, 1]) : l = [0, 1] ∨ l = [1, 0] := by
  have hl := h.length_eq
  match l, hl with
  | [a, b], _ =>
    have ha : a ∈ [0, 1] := h.mem_iff.1 (by simp)
    have hb : b ∈ [0, 1] := h.mem_iff.1 (by simp)
    have hn : a ≠ b := by have := (h.nodup_iff).2 (by decide : [0, 1].Nodup); simp at this; exact this
    simp at ha hb
    rcases ha with rfl | rfl <;> rcases hb with rfl | rfl <;> simp_all
theorem told_sw {l : List Nat} (h : l.Perm (tk [sE, wE 3] 2)) (hr : RiseM [sE, wE 3] l) (M : Nat → Nat → Int) : runC [sE, wE 3] (tStep [sE, wE 3]) (tGood [sE, wE 3]) ((M, false) : TS) l = -1 := by
  rcases perm2 h with rfl | rfl
  · rfl
  · exact absurd ((List.pairwise_cons.1 hr).1 0 (by simp)) (by decide)
theorem told_sx {l : List Nat} (h : l.Perm (tk [sE, wE 1] 2)) (hr : RiseM [sE, wE 1] l) (M : Nat → Nat → Int) : runC [sE, wE 1] (tStep [sE, wE 1]) (tGood [sE, wE 1]) ((M, false) : TS) l = 1 := by
  rcases perm2 h with rfl | rfl
  · exact absurd ((List.pairwise_cons.1 hr).1 1 (by simp)) (by decide)
  · rfl
theorem told_gok : GOk 1 [] [0] :=
  ⟨by decide, by decide, by decide, fun e he => by simp at he, chkV_ok (by decide) (by decide) (by decide) (fun e he => by simp at he) (by simp) (by decide) (InOk.snoc (l := []) (fun j p hj => absurd hj (by simp)) ⟨Int.le_refl _, by omega⟩ (by simp)) (no_round (fun e he => by simp at he) (fun e he => by simp at he))⟩
theorem told_plan : (planV (1 : Int) [] [0] (2 : Int) 1 1 1).2 = 0 := by
  have h : (chkV (1 : Int) [] [0]).2 = 0 := by have := told_gok.chk; rw [show ((1 : Nat) : Int) = 1 from rfl] at this; rw [this]
  unfold planV
  rw [if_neg (fun h' => h' h), if_neg (by decide), if_neg (by decide), if_neg (by decide), if_neg (by decide)]
def enC (x : En) : List Value := [.int .i64 x.who, .int .i64 x.beg, .int .i64 x.mark, .int .i64 x.fin, .int .i64 x.kind, .int .i64 x.owho, .int .i64 x.hand, .int .i64 x.port, .int .u64 x.time, .slice x.la x.ln x.lc, .int .i64 x.way, .int .i64 x.n, .int .i64 x.err, .slice x.ta x.tn x.tc]
theorem rd_two {w : World} {g : Nat} {x y : En} {T : TypeId} {cs : Array Value} (h : w.heap[g]? = some (.cells cs T (0, 0))) (hc : cs.toList = enC x ++ enC y) (hx : I64h x.mark) (hy : I64h y.mark) : RdE w (.slice (some ⟨g, 0, none⟩) 2 2) [x, y] := by
  have e : ∀ j, w.cell? ⟨g, j, none⟩ = (enC x ++ enC y)[j]? := fun j => by
    rw [← hc]
    simp [World.cell?, h]
  refine ⟨_, _, rfl, by simp, .inr ⟨g, 0, rfl, fun i z hz => ?_⟩⟩
  match i, hz with
  | 0, hz =>
    simp at hz
    subst hz
    exact ⟨⟨e _, e _, e _, e _, e _, e _, e _, e _, e _, e _, e _, e _, e _, e _⟩, hx⟩
  | 1, hz =>
    simp at hz
    subst hz
    exact ⟨⟨e _, e _, e _, e _, e _, e _, e _, e _, e _, e _, e _, e _, e _, e _⟩, hy⟩
  | k + 2, hz => simp at hz
theorem told_c {W : World} {n0 g : Nat} {L : List En} {z0 : Int} (h0 : W.heap[n0]? = some (.cells #[.int .i64 0] 3 (0, 0))) (hL : RdE W (.slice (some ⟨g, 0, none⟩) 2 2) L) (hl : L.length = 2) (hs : ∀ x ∈ L, x = sE ∨ ∃ m, x = wE m)
    (hz : ∀ z : Int, ((rightB 2 L = false ∧ z = -2) ∨ (rightB 2 L = true ∧ ∃ (M : Nat → Nat → Int) (l : List Nat), LeastM [] true 1 M ∧ l.Perm (tk L L.length) ∧ RiseM L l ∧ z = runC L (tStep L) (tGood L) ((M, false) : TS) l)) → z = z0) :
    Calls Tryz.prog 54 #[.agg #[.int .i64 1, .slice none 0 0, .slice (some ⟨n0, 0, none⟩) 1 1, .int .i64 2, .int .i64 1, .int .i64 1, .int .i64 1], .slice (some ⟨g, 0, none⟩) 2 2] W fun e w' => e = .returned (.int .i64 z0) ∧ Below W.heap.size W w' := by
  have hi : RdI W (.slice (some ⟨n0, 0, none⟩) 1 1) [0] := ⟨_, _, rfl, by decide, by decide, fun x hx => by simp at hx; subst hx; decide, .inr ⟨n0, 0, rfl, fun i x hx => by
    match i, hx with
    | 0, hx => simp at hx; subst hx; simp [World.cell?, h0]
    | k + 1, hx => simp at hx⟩⟩
  have h := hsCheck_any (w := W) (p := 1) (T := 2) (E := []) (I := [0]) (L := L) (s0 := fun M => ((M, false) : TS)) 1 1 1 (Rd.nil W) hi told_plan told_gok (by decide) ⟨by decide, by decide⟩ ⟨by decide, by decide⟩ hL (by omega) (told_sem W L hs) (fun M _ => ⟨trivial, rfl⟩)
  refine h.mono ?_
  rintro e w' ⟨⟨z, rfl, hzz⟩, hb⟩
  exact ⟨by rw [hz z hzz], hb⟩
theorem sw_ok (z : Int) (h : (rightB 2 [sE, wE 3] = false ∧ z = -2) ∨ (rightB 2 [sE, wE 3] = true ∧ ∃ (M : Nat → Nat → Int) (l : List Nat), LeastM [] true 1 M ∧ l.Perm (tk [sE, wE 3] 2) ∧ RiseM [sE, wE 3] l ∧ z = runC [sE, wE 3] (tStep [sE, wE 3]) (tGood [sE, wE 3]) ((M, false) : TS) l)) : z = -1 := by
  rcases h with ⟨h, _⟩ | ⟨_, M, l, _, h1, h2, h3⟩
  · exact absurd h (by decide)
  · rw [h3, told_sw h1 h2 M]
theorem sx_ok (z : Int) (h : (rightB 2 [sE, wE 1] = false ∧ z = -2) ∨ (rightB 2 [sE, wE 1] = true ∧ ∃ (M : Nat → Nat → Int) (l : List Nat), LeastM [] true 1 M ∧ l.Perm (tk [sE, wE 1] 2) ∧ RiseM [sE, wE 1] l ∧ z = runC [sE, wE 1] (tStep [sE, wE 1]) (tGood [sE, wE 1]) ((M, false) : TS) l)) : z = 1 := by
  rcases h with ⟨h, _⟩ | ⟨_, M, l, _, h1, h2, h3⟩
  · exact absurd h (by decide)
  · rw [h3, told_sx h1 h2 M]
theorem ss_ok (z : Int) (h : (rightB 2 [sE, sE] = false ∧ z = -2) ∨ (rightB 2 [sE, sE] = true ∧ ∃ (M : Nat → Nat → Int) (l : List Nat), LeastM [] true 1 M ∧ l.Perm (tk [sE, sE] 2) ∧ RiseM [sE, sE] l ∧ z = runC [sE, sE] (tStep [sE, sE]) (tGood [sE, sE]) ((M, false) : TS) l)) : z = -2 := by
  rcases h with ⟨_, h⟩ | ⟨h, _⟩
  · exact h
  · exact absurd h (by decide)
theorem sw_mem (m : Int) : ∀ x ∈ [sE, wE m], x = sE ∨ ∃ m, x = wE m := fun x hx => by
  simp at hx
  rcases hx with rfl | rfl
  · exact .inl rfl
  · exact .inr ⟨_, rfl⟩
theorem ss_mem : ∀ x ∈ [sE, sE], x = sE ∨ ∃ m, x = wE m := fun x hx => by
  simp at hx
  exact .inl hx
theorem i64s (m : Int) (h : 0 ≤ m ∧ m ≤ 9) : I64h m := ⟨by omega, by omega⟩
set_option maxRecDepth 1000000 in
set_option maxHeartbeats 16000000 in
theorem hsTold_any (w : World) : Calls Tryz.prog 20 #[] w fun e w' => e = .returned (.bool true) ∧ Below w.heap.size w w' := by
  obtain ⟨w5, hw5⟩ : ∃ w5, w5 = (((((w.alloc (.cells #[.int .i64 0] 3)).alloc (.cells #[.int .i64 1, .slice none 0 0, .slice (some ⟨w.heap.size, 0, none⟩) 1 1, .int .i64 2, .int .i64 1, .int .i64 1, .int .i64 1] 35)).alloc (.cells #[.int .i64 0, .int .i64 0, .int .i64 2, .int .i64 2, .int .i64 7, .int .i64 0, .int .i64 0, .int .i64 0, .int .u64 0, .slice none 0 0, .int .i64 0, .int .i64 0, .int .i64 0, .slice none 0 0] 66)).alloc (.cells #[.int .i64 1, .int .i64 0, .int .i64 3, .int .i64 4, .int .i64 6, .int .i64 1, .int .i64 0, .int .i64 0, .int .u64 0, .slice none 0 0, .int .i64 0, .int .i64 0, .int .i64 8, .slice none 0 0] 66)).alloc (.cells #[.int .i64 1, .int .i64 0, .int .i64 1, .int .i64 4, .int .i64 6, .int .i64 1, .int .i64 0, .int .i64 0, .int .u64 0, .slice none 0 0, .int .i64 0, .int .i64 0, .int .i64 8, .slice none 0 0] 66)) := ⟨_, rfl⟩
  have HB5 := Lib.hid (show Below w.heap.size w w5 by rw [hw5]; exact (((((Below.refl _ _).alloc (Nat.le_refl _) _).alloc (by simp) _).alloc (by simp; omega) _).alloc (by simp; omega) _).alloc (by simp; omega) _)
  have HK0 := Lib.hid (show w5.heap[w.heap.size]? = some (.cells #[.int .i64 0] 3 (0, 0)) by
    rw [hw5]
    rw [heap_alloc_old _ _ (by first | (simp; done) | (simp; omega))]
    rw [heap_alloc_old _ _ (by first | (simp; done) | (simp; omega))]
    rw [heap_alloc_old _ _ (by first | (simp; done) | (simp; omega))]
    rw [heap_alloc_old _ _ (by first | (simp; done) | (simp; omega))]
    have h := heap_alloc_new w (.cells #[.int .i64 0] 3)
    simpa using h)
  have HK1 := Lib.hid (show w5.heap[w.heap.size + 1]? = some (.cells #[.int .i64 1, .slice none 0 0, .slice (some ⟨w.heap.size, 0, none⟩) 1 1, .int .i64 2, .int .i64 1, .int .i64 1, .int .i64 1] 35 (0, 0)) by
    rw [hw5]
    rw [heap_alloc_old _ _ (by first | (simp; done) | (simp; omega))]
    rw [heap_alloc_old _ _ (by first | (simp; done) | (simp; omega))]
    rw [heap_alloc_old _ _ (by first | (simp; done) | (simp; omega))]
    have h := heap_alloc_new (w.alloc (.cells #[.int .i64 0] 3)) (.cells #[.int .i64 1, .slice none 0 0, .slice (some ⟨w.heap.size, 0, none⟩) 1 1, .int .i64 2, .int .i64 1, .int .i64 1, .int .i64 1] 35)
    simpa using h)
  have HK2 := Lib.hid (show w5.heap[w.heap.size + 1 + 1]? = some (.cells #[.int .i64 0, .int .i64 0, .int .i64 2, .int .i64 2, .int .i64 7, .int .i64 0, .int .i64 0, .int .i64 0, .int .u64 0, .slice none 0 0, .int .i64 0, .int .i64 0, .int .i64 0, .slice none 0 0] 66 (0, 0)) by
    rw [hw5]
    rw [heap_alloc_old _ _ (by first | (simp; done) | (simp; omega))]
    rw [heap_alloc_old _ _ (by first | (simp; done) | (simp; omega))]
    have h := heap_alloc_new ((w.alloc (.cells #[.int .i64 0] 3)).alloc (.cells #[.int .i64 1, .slice none 0 0, .slice (some ⟨w.heap.size, 0, none⟩) 1 1, .int .i64 2, .int .i64 1, .int .i64 1, .int .i64 1] 35)) (.cells #[.int .i64 0, .int .i64 0, .int .i64 2, .int .i64 2, .int .i64 7, .int .i64 0, .int .i64 0, .int .i64 0, .int .u64 0, .slice none 0 0, .int .i64 0, .int .i64 0, .int .i64 0, .slice none 0 0] 66)
    simpa using h)
  have HK3 := Lib.hid (show w5.heap[w.heap.size + 1 + 1 + 1]? = some (.cells #[.int .i64 1, .int .i64 0, .int .i64 3, .int .i64 4, .int .i64 6, .int .i64 1, .int .i64 0, .int .i64 0, .int .u64 0, .slice none 0 0, .int .i64 0, .int .i64 0, .int .i64 8, .slice none 0 0] 66 (0, 0)) by
    rw [hw5]
    rw [heap_alloc_old _ _ (by first | (simp; done) | (simp; omega))]
    have h := heap_alloc_new (((w.alloc (.cells #[.int .i64 0] 3)).alloc (.cells #[.int .i64 1, .slice none 0 0, .slice (some ⟨w.heap.size, 0, none⟩) 1 1, .int .i64 2, .int .i64 1, .int .i64 1, .int .i64 1] 35)).alloc (.cells #[.int .i64 0, .int .i64 0, .int .i64 2, .int .i64 2, .int .i64 7, .int .i64 0, .int .i64 0, .int .i64 0, .int .u64 0, .slice none 0 0, .int .i64 0, .int .i64 0, .int .i64 0, .slice none 0 0] 66)) (.cells #[.int .i64 1, .int .i64 0, .int .i64 3, .int .i64 4, .int .i64 6, .int .i64 1, .int .i64 0, .int .i64 0, .int .u64 0, .slice none 0 0, .int .i64 0, .int .i64 0, .int .i64 8, .slice none 0 0] 66)
    simpa using h)
  have HK4 := Lib.hid (show w5.heap[w.heap.size + 1 + 1 + 1 + 1]? = some (.cells #[.int .i64 1, .int .i64 0, .int .i64 1, .int .i64 4, .int .i64 6, .int .i64 1, .int .i64 0, .int .i64 0, .int .u64 0, .slice none 0 0, .int .i64 0, .int .i64 0, .int .i64 8, .slice none 0 0] 66 (0, 0)) by
    rw [hw5]
    have h := heap_alloc_new ((((w.alloc (.cells #[.int .i64 0] 3)).alloc (.cells #[.int .i64 1, .slice none 0 0, .slice (some ⟨w.heap.size, 0, none⟩) 1 1, .int .i64 2, .int .i64 1, .int .i64 1, .int .i64 1] 35)).alloc (.cells #[.int .i64 0, .int .i64 0, .int .i64 2, .int .i64 2, .int .i64 7, .int .i64 0, .int .i64 0, .int .i64 0, .int .u64 0, .slice none 0 0, .int .i64 0, .int .i64 0, .int .i64 0, .slice none 0 0] 66)).alloc (.cells #[.int .i64 1, .int .i64 0, .int .i64 3, .int .i64 4, .int .i64 6, .int .i64 1, .int .i64 0, .int .i64 0, .int .u64 0, .slice none 0 0, .int .i64 0, .int .i64 0, .int .i64 8, .slice none 0 0] 66)) (.cells #[.int .i64 1, .int .i64 0, .int .i64 1, .int .i64 4, .int .i64 6, .int .i64 1, .int .i64 0, .int .i64 0, .int .u64 0, .slice none 0 0, .int .i64 0, .int .i64 0, .int .i64 8, .slice none 0 0] 66)
    simpa using h)
  go_enter Tryz.func20, Tryz.ntmps20
  go_upto_region 6 with fail
  rw [← hw5]
  clear hw5
  have HBX := Lib.hid (Below.refl w5.heap.size w5)
  obtain ⟨k1a, k1b, k1c, k1d, k1e, k1f, k1g⟩ := cells7 (w := w5) HK1.out
  obtain ⟨k2a, k2b, k2c, k2d, k2e, k2f, k2g, k2h, k2i, k2j, k2k, k2l, k2m, k2n⟩ := cells14 (w := w5) sE (show w5.heap[w.heap.size + 1 + 1]? = some (.cells _ _ (0, 0)) from HK2.out)
  dsimp only [sE, wE, Nat.zero_add] at k2a k2b k2c k2d k2e k2f k2g k2h k2i k2j k2k k2l k2m k2n
  obtain ⟨k3a, k3b, k3c, k3d, k3e, k3f, k3g, k3h, k3i, k3j, k3k, k3l, k3m, k3n⟩ := cells14 (w := w5) (wE 3) (show w5.heap[w.heap.size + 1 + 1 + 1]? = some (.cells _ _ (0, 0)) from HK3.out)
  dsimp only [sE, wE, Nat.zero_add] at k3a k3b k3c k3d k3e k3f k3g k3h k3i k3j k3k k3l k3m k3n
  obtain ⟨k4a, k4b, k4c, k4d, k4e, k4f, k4g, k4h, k4i, k4j, k4k, k4l, k4m, k4n⟩ := cells14 (w := w5) (wE 1) (show w5.heap[w.heap.size + 1 + 1 + 1 + 1]? = some (.cells _ _ (0, 0)) from HK4.out)
  dsimp only [sE, wE, Nat.zero_add] at k4a k4b k4c k4d k4e k4f k4g k4h k4i k4j k4k k4l k4m k4n
  go_wp2_with fail
  go_at_call 54
  obtain ⟨wa, hwa⟩ : ∃ wa, wa = w5.alloc (.cells #[.int .i64 0, .int .i64 0, .int .i64 2, .int .i64 2, .int .i64 7, .int .i64 0, .int .i64 0, .int .i64 0, .int .u64 0, .slice none 0 0, .int .i64 0, .int .i64 0, .int .i64 0, .slice none 0 0, .int .i64 1, .int .i64 0, .int .i64 3, .int .i64 4, .int .i64 6, .int .i64 1, .int .i64 0, .int .i64 0, .int .u64 0, .slice none 0 0, .int .i64 0, .int .i64 0, .int .i64 8, .slice none 0 0] 66) := ⟨_, rfl⟩
  rw [← hwa]
  have hba : Below w5.heap.size w5 wa := by rw [hwa]; exact (Below.refl _ _).alloc (Nat.le_refl _) _
  have hna : wa.heap[w5.heap.size]? = some (.cells #[.int .i64 0, .int .i64 0, .int .i64 2, .int .i64 2, .int .i64 7, .int .i64 0, .int .i64 0, .int .i64 0, .int .u64 0, .slice none 0 0, .int .i64 0, .int .i64 0, .int .i64 0, .slice none 0 0, .int .i64 1, .int .i64 0, .int .i64 3, .int .i64 4, .int .i64 6, .int .i64 1, .int .i64 0, .int .i64 0, .int .u64 0, .slice none 0 0, .int .i64 0, .int .i64 0, .int .i64 8, .slice none 0 0] 66 (0, 0)) := by rw [hwa]; exact heap_alloc_new _ _
  have hb5a : Below w5.heap.size w5 wa := HBX.out.trans (hba.mono HBX.out.size)
  clear hwa
  refine (told_c ((hb5a.block _ (Array.getElem?_eq_some_iff.1 HK0.out).1).trans HK0.out) (rd_two (x := sE) (y := wE 3) hna rfl (i64s 2 (by decide)) (i64s 3 (by decide))) rfl (sw_mem 3) sw_ok).mono ?_
  rintro e w6 ⟨rfl, hb⟩
  have HBX0 := Lib.hid (hb5a.trans (hb.mono hb5a.size))
  clear HBX
  have HBX := HBX0
  clear k1a k1b k1c k1d k1e k1f k1g k2a k2b k2c k2d k2e k2f k2g k2h k2i k2j k2k k2l k2m k2n k3a k3b k3c k3d k3e k3f k3g k3h k3i k3j k3k k3l k3m k3n k4a k4b k4c k4d k4e k4f k4g k4h k4i k4j k4k k4l k4m k4n
  clear hba hna hb5a hb
  obtain ⟨k1a, k1b, k1c, k1d, k1e, k1f, k1g⟩ := cells7 (w := w6) ((HBX.out.block _ (Array.getElem?_eq_some_iff.1 HK1.out).1).trans HK1.out)
  obtain ⟨k2a, k2b, k2c, k2d, k2e, k2f, k2g, k2h, k2i, k2j, k2k, k2l, k2m, k2n⟩ := cells14 (w := w6) sE (show w6.heap[w.heap.size + 1 + 1]? = some (.cells _ _ (0, 0)) from ((HBX.out.block _ (Array.getElem?_eq_some_iff.1 HK2.out).1).trans HK2.out))
  dsimp only [sE, wE, Nat.zero_add] at k2a k2b k2c k2d k2e k2f k2g k2h k2i k2j k2k k2l k2m k2n
  obtain ⟨k3a, k3b, k3c, k3d, k3e, k3f, k3g, k3h, k3i, k3j, k3k, k3l, k3m, k3n⟩ := cells14 (w := w6) (wE 3) (show w6.heap[w.heap.size + 1 + 1 + 1]? = some (.cells _ _ (0, 0)) from ((HBX.out.block _ (Array.getElem?_eq_some_iff.1 HK3.out).1).trans HK3.out))
  dsimp only [sE, wE, Nat.zero_add] at k3a k3b k3c k3d k3e k3f k3g k3h k3i k3j k3k k3l k3m k3n
  obtain ⟨k4a, k4b, k4c, k4d, k4e, k4f, k4g, k4h, k4i, k4j, k4k, k4l, k4m, k4n⟩ := cells14 (w := w6) (wE 1) (show w6.heap[w.heap.size + 1 + 1 + 1 + 1]? = some (.cells _ _ (0, 0)) from ((HBX.out.block _ (Array.getElem?_eq_some_iff.1 HK4.out).1).trans HK4.out))
  dsimp only [sE, wE, Nat.zero_add] at k4a k4b k4c k4d k4e k4f k4g k4h k4i k4j k4k k4l k4m k4n
  go_wp2_with fail
  go_at_call 54
  obtain ⟨wa, hwa⟩ : ∃ wa, wa = w6.alloc (.cells #[.int .i64 0, .int .i64 0, .int .i64 2, .int .i64 2, .int .i64 7, .int .i64 0, .int .i64 0, .int .i64 0, .int .u64 0, .slice none 0 0, .int .i64 0, .int .i64 0, .int .i64 0, .slice none 0 0, .int .i64 1, .int .i64 0, .int .i64 1, .int .i64 4, .int .i64 6, .int .i64 1, .int .i64 0, .int .i64 0, .int .u64 0, .slice none 0 0, .int .i64 0, .int .i64 0, .int .i64 8, .slice none 0 0] 66) := ⟨_, rfl⟩
  rw [← hwa]
  have hba : Below w6.heap.size w6 wa := by rw [hwa]; exact (Below.refl _ _).alloc (Nat.le_refl _) _
  have hna : wa.heap[w6.heap.size]? = some (.cells #[.int .i64 0, .int .i64 0, .int .i64 2, .int .i64 2, .int .i64 7, .int .i64 0, .int .i64 0, .int .i64 0, .int .u64 0, .slice none 0 0, .int .i64 0, .int .i64 0, .int .i64 0, .slice none 0 0, .int .i64 1, .int .i64 0, .int .i64 1, .int .i64 4, .int .i64 6, .int .i64 1, .int .i64 0, .int .i64 0, .int .u64 0, .slice none 0 0, .int .i64 0, .int .i64 0, .int .i64 8, .slice none 0 0] 66 (0, 0)) := by rw [hwa]; exact heap_alloc_new _ _
  have hb5a : Below w5.heap.size w5 wa := HBX.out.trans (hba.mono HBX.out.size)
  clear hwa
  refine (told_c ((hb5a.block _ (Array.getElem?_eq_some_iff.1 HK0.out).1).trans HK0.out) (rd_two (x := sE) (y := wE 1) hna rfl (i64s 2 (by decide)) (i64s 1 (by decide))) rfl (sw_mem 1) sx_ok).mono ?_
  rintro e w7 ⟨rfl, hb⟩
  have HBX1 := Lib.hid (hb5a.trans (hb.mono hb5a.size))
  clear HBX
  have HBX := HBX1
  clear k1a k1b k1c k1d k1e k1f k1g k2a k2b k2c k2d k2e k2f k2g k2h k2i k2j k2k k2l k2m k2n k3a k3b k3c k3d k3e k3f k3g k3h k3i k3j k3k k3l k3m k3n k4a k4b k4c k4d k4e k4f k4g k4h k4i k4j k4k k4l k4m k4n
  clear hba hna hb5a hb
  obtain ⟨k1a, k1b, k1c, k1d, k1e, k1f, k1g⟩ := cells7 (w := w7) ((HBX.out.block _ (Array.getElem?_eq_some_iff.1 HK1.out).1).trans HK1.out)
  obtain ⟨k2a, k2b, k2c, k2d, k2e, k2f, k2g, k2h, k2i, k2j, k2k, k2l, k2m, k2n⟩ := cells14 (w := w7) sE (show w7.heap[w.heap.size + 1 + 1]? = some (.cells _ _ (0, 0)) from ((HBX.out.block _ (Array.getElem?_eq_some_iff.1 HK2.out).1).trans HK2.out))
  dsimp only [sE, wE, Nat.zero_add] at k2a k2b k2c k2d k2e k2f k2g k2h k2i k2j k2k k2l k2m k2n
  obtain ⟨k3a, k3b, k3c, k3d, k3e, k3f, k3g, k3h, k3i, k3j, k3k, k3l, k3m, k3n⟩ := cells14 (w := w7) (wE 3) (show w7.heap[w.heap.size + 1 + 1 + 1]? = some (.cells _ _ (0, 0)) from ((HBX.out.block _ (Array.getElem?_eq_some_iff.1 HK3.out).1).trans HK3.out))
  dsimp only [sE, wE, Nat.zero_add] at k3a k3b k3c k3d k3e k3f k3g k3h k3i k3j k3k k3l k3m k3n
  obtain ⟨k4a, k4b, k4c, k4d, k4e, k4f, k4g, k4h, k4i, k4j, k4k, k4l, k4m, k4n⟩ := cells14 (w := w7) (wE 1) (show w7.heap[w.heap.size + 1 + 1 + 1 + 1]? = some (.cells _ _ (0, 0)) from ((HBX.out.block _ (Array.getElem?_eq_some_iff.1 HK4.out).1).trans HK4.out))
  dsimp only [sE, wE, Nat.zero_add] at k4a k4b k4c k4d k4e k4f k4g k4h k4i k4j k4k k4l k4m k4n
  go_wp2_with fail
  go_at_call 54
  obtain ⟨wa, hwa⟩ : ∃ wa, wa = w7.alloc (.cells #[.int .i64 0, .int .i64 0, .int .i64 2, .int .i64 2, .int .i64 7, .int .i64 0, .int .i64 0, .int .i64 0, .int .u64 0, .slice none 0 0, .int .i64 0, .int .i64 0, .int .i64 0, .slice none 0 0, .int .i64 0, .int .i64 0, .int .i64 2, .int .i64 2, .int .i64 7, .int .i64 0, .int .i64 0, .int .i64 0, .int .u64 0, .slice none 0 0, .int .i64 0, .int .i64 0, .int .i64 0, .slice none 0 0] 66) := ⟨_, rfl⟩
  rw [← hwa]
  have hba : Below w7.heap.size w7 wa := by rw [hwa]; exact (Below.refl _ _).alloc (Nat.le_refl _) _
  have hna : wa.heap[w7.heap.size]? = some (.cells #[.int .i64 0, .int .i64 0, .int .i64 2, .int .i64 2, .int .i64 7, .int .i64 0, .int .i64 0, .int .i64 0, .int .u64 0, .slice none 0 0, .int .i64 0, .int .i64 0, .int .i64 0, .slice none 0 0, .int .i64 0, .int .i64 0, .int .i64 2, .int .i64 2, .int .i64 7, .int .i64 0, .int .i64 0, .int .i64 0, .int .u64 0, .slice none 0 0, .int .i64 0, .int .i64 0, .int .i64 0, .slice none 0 0] 66 (0, 0)) := by rw [hwa]; exact heap_alloc_new _ _
  have hb5a : Below w5.heap.size w5 wa := HBX.out.trans (hba.mono HBX.out.size)
  clear hwa
  refine (told_c ((hb5a.block _ (Array.getElem?_eq_some_iff.1 HK0.out).1).trans HK0.out) (rd_two (x := sE) (y := sE) hna rfl (i64s 2 (by decide)) (i64s 2 (by decide))) rfl (ss_mem) ss_ok).mono ?_
  rintro e w8 ⟨rfl, hb⟩
  have HBX2 := Lib.hid (hb5a.trans (hb.mono hb5a.size))
  clear HBX
  have HBX := HBX2
  clear k1a k1b k1c k1d k1e k1f k1g k2a k2b k2c k2d k2e k2f k2g k2h k2i k2j k2k k2l k2m k2n k3a k3b k3c k3d k3e k3f k3g k3h k3i k3j k3k k3l k3m k3n k4a k4b k4c k4d k4e k4f k4g k4h k4i k4j k4k k4l k4m k4n
  clear hba hna hb5a hb
  obtain ⟨k1a, k1b, k1c, k1d, k1e, k1f, k1g⟩ := cells7 (w := w8) ((HBX.out.block _ (Array.getElem?_eq_some_iff.1 HK1.out).1).trans HK1.out)
  obtain ⟨k2a, k2b, k2c, k2d, k2e, k2f, k2g, k2h, k2i, k2j, k2k, k2l, k2m, k2n⟩ := cells14 (w := w8) sE (show w8.heap[w.heap.size + 1 + 1]? = some (.cells _ _ (0, 0)) from ((HBX.out.block _ (Array.getElem?_eq_some_iff.1 HK2.out).1).trans HK2.out))
  dsimp only [sE, wE, Nat.zero_add] at k2a k2b k2c k2d k2e k2f k2g k2h k2i k2j k2k k2l k2m k2n
  obtain ⟨k3a, k3b, k3c, k3d, k3e, k3f, k3g, k3h, k3i, k3j, k3k, k3l, k3m, k3n⟩ := cells14 (w := w8) (wE 3) (show w8.heap[w.heap.size + 1 + 1 + 1]? = some (.cells _ _ (0, 0)) from ((HBX.out.block _ (Array.getElem?_eq_some_iff.1 HK3.out).1).trans HK3.out))
  dsimp only [sE, wE, Nat.zero_add] at k3a k3b k3c k3d k3e k3f k3g k3h k3i k3j k3k k3l k3m k3n
  obtain ⟨k4a, k4b, k4c, k4d, k4e, k4f, k4g, k4h, k4i, k4j, k4k, k4l, k4m, k4n⟩ := cells14 (w := w8) (wE 1) (show w8.heap[w.heap.size + 1 + 1 + 1 + 1]? = some (.cells _ _ (0, 0)) from ((HBX.out.block _ (Array.getElem?_eq_some_iff.1 HK4.out).1).trans HK4.out))
  dsimp only [sE, wE, Nat.zero_add] at k4a k4b k4c k4d k4e k4f k4g k4h k4i k4j k4k k4l k4m k4n
  go_wp2_with fail
  go_at_call 21
  obtain ⟨wa, hwa⟩ : ∃ wa, wa = w8.alloc (.cells #[.int .i64 0, .int .i64 0, .int .i64 2, .int .i64 2, .int .i64 7, .int .i64 0, .int .i64 0, .int .i64 0, .int .u64 0, .slice none 0 0, .int .i64 0, .int .i64 0, .int .i64 0, .slice none 0 0, .int .i64 0, .int .i64 0, .int .i64 2, .int .i64 2, .int .i64 7, .int .i64 0, .int .i64 0, .int .i64 0, .int .u64 0, .slice none 0 0, .int .i64 0, .int .i64 0, .int .i64 0, .slice none 0 0] 66) := ⟨_, rfl⟩
  rw [← hwa]
  have hba : Below w8.heap.size w8 wa := by rw [hwa]; exact (Below.refl _ _).alloc (Nat.le_refl _) _
  have hna : wa.heap[w8.heap.size]? = some (.cells #[.int .i64 0, .int .i64 0, .int .i64 2, .int .i64 2, .int .i64 7, .int .i64 0, .int .i64 0, .int .i64 0, .int .u64 0, .slice none 0 0, .int .i64 0, .int .i64 0, .int .i64 0, .slice none 0 0, .int .i64 0, .int .i64 0, .int .i64 2, .int .i64 2, .int .i64 7, .int .i64 0, .int .i64 0, .int .i64 0, .int .u64 0, .slice none 0 0, .int .i64 0, .int .i64 0, .int .i64 0, .slice none 0 0] 66 (0, 0)) := by rw [hwa]; exact heap_alloc_new _ _
  have hb5a : Below w5.heap.size w5 wa := HBX.out.trans (hba.mono HBX.out.size)
  clear hwa
  refine (hsRight_any 2 (rd_two (x := sE) (y := sE) hna rfl (i64s 2 (by decide)) (i64s 2 (by decide)))).mono ?_
  rw [show rightB 2 [sE, sE] = false by decide]
  rintro e w9 ⟨rfl, hb⟩
  have HBF := Lib.hid (HB5.out.trans ((hb5a.trans (hb.mono hb5a.size)).mono HB5.out.size))
  clear k1a k1b k1c k1d k1e k1f k1g k2a k2b k2c k2d k2e k2f k2g k2h k2i k2j k2k k2l k2m k2n k3a k3b k3c k3d k3e k3f k3g k3h k3i k3j k3k k3l k3m k3n k4a k4b k4c k4d k4e k4f k4g k4h k4i k4j k4k k4l k4m k4n
  clear hba hna hb5a hb
  go_wp2_with fail
  go_ret
  exact ⟨rfl, HBF.out⟩
end Go.Proofs.YtdllgeanmlmmfaaGreatDoor.Hs
