/-
  PACKAGES mem and marchlandref08: both Mems at once: neither touches the other; an access of any kind, by both.
-/
import Derived.Test.YtneegocbknkhjaaMemBoth
import Derived.Test.YtneegocbknkhjaaMemDo
namespace Go.Proofs.Ytneegocbknkhjaa.Rm
open Go.RowKit Rw Pk Mm
set_option linter.unusedVariables false

theorem RefAt.zero {σ : Nat → Nat} {w : World} {b : Nat} {R : Rs} (h : RefAt σ w b R) {g : Nat} (hg : w.heap.size ≤ g) : σ g = 0 := by
  obtain ⟨V, h⟩ := h
  by_cases e : σ g = 0
  · exact e
  · have := h.tz g e; omega
theorem mem_zero {τ : Nat → Nat} {w : World} {b : Nat} {M : St} (h : MemAt τ w b M) {g : Nat} (hg : w.heap.size ≤ g) : τ g = 0 := by
  obtain ⟨V, h⟩ := h
  by_cases e : τ g = 0
  · exact e
  · have := h.tz g e; omega
def Apart (τ σ : Nat → Nat) : Prop := ∀ i, τ i = 0 ∨ σ i = 0
theorem ref_beside {τ τ' σ : Nat → Nat} {w w' : World} {b : Nat} {R : Rs} (hA : Apart τ σ) (hR : RefAt σ w b R) (hs : Step τ τ' w w') : RefAt σ w' b R ∧ Apart τ' σ := by
  have hz := fun (g : Nat) (hg : w.heap.size ≤ g) => hR.zero hg
  refine ⟨?_, fun i => ?_⟩
  · obtain ⟨V, hV⟩ := hR
    exact ⟨V, hV.keep ⟨hs.bel.size, fun i hi h0 _ => hs.out i hi ((hA i).resolve_right h0)⟩ (fun _ _ => rfl) fun i hi => Nat.lt_of_lt_of_le (hV.tz i hi) hs.bel.size⟩
  · by_cases hi : i < w.heap.size
    · rw [hs.ext i hi]; exact hA i
    · exact .inr (hz i (by omega))
theorem mem_beside {τ σ σ' : Nat → Nat} {w w' : World} {p : Nat} {M : St} (hA : Apart τ σ) (hM : MemAt τ w p M) (hs : Step σ σ' w w') : MemAt τ w' p M ∧ Apart τ σ' := by
  have hz := fun (g : Nat) (hg : w.heap.size ≤ g) => mem_zero hM hg
  refine ⟨?_, fun i => ?_⟩
  · obtain ⟨V, hV⟩ := hM
    exact ⟨V, hV.keep ⟨hs.bel.size, fun i hi h0 _ => hs.out i hi ((hA i).resolve_left h0)⟩ (fun _ _ => rfl) fun i hi => Nat.lt_of_lt_of_le (hV.tz i hi) hs.bel.size⟩
  · by_cases hi : i < w.heap.size
    · rw [hs.ext i hi]; exact hA i
    · exact .inl (hz i (by omega))
/-- Both, at each round; zs: blocks that are neither's. -/
structure TwoIs (n : Nat) (w0 : World) (zs : List Nat) (τ σ : Nat → Nat) (w : World) : Prop where
  ap : Apart τ σ
  z : ∀ j, j < n ∨ j ∈ zs → τ j = 0 ∧ σ j = 0
  zl : ∀ j ∈ zs, j < w.heap.size
  nl : n ≤ w.heap.size
  kept : Below n w0 w
def Two (n : Nat) (w0 : World) (zs : List Nat) (p b k : Nat) (w : World) : Prop := ∃ (τ σ : Nat → Nat) (M : St) (R : Rs), TwoIs n w0 zs τ σ w ∧ MemAt τ w p M ∧ RefAt σ w b R ∧ Sim M R ∧ Mm.Good 4 3 3 k M ∧ R.bd.length ≤ k
theorem rbnd_of {M : St} {R : Rs} {k : Nat} (hS : Sim M R) (hG : Mm.Good 4 3 3 k M) (hb : R.bd.length ≤ k) (hk : k ≤ 100000) : RBnd R := by
  have h1 := hG.a
  have h2 := hG.b
  have h3 := hG.c
  have h4 := hG.l
  refine ⟨by rw [hS.ws]; omega, by rw [hS.bs]; omega, by rw [hS.ll]; omega, by omega, by rw [hS.lg]; omega⟩
theorem TwoIs.below {n : Nat} {w0 w w' : World} {zs : List Nat} {τ σ : Nat → Nat} (h : TwoIs n w0 zs τ σ w) (hb : Below w.heap.size w w') : TwoIs n w0 zs τ σ w' :=
  ⟨h.ap, h.z, fun j hj => Nat.lt_of_lt_of_le (h.zl j hj) hb.size, Nat.le_trans h.nl hb.size, h.kept.trans (hb.mono h.nl)⟩
theorem Two.below {n p b k : Nat} {w0 w w' : World} {zs : List Nat} (h : Two n w0 zs p b k w) (hb : Below w.heap.size w w') : Two n w0 zs p b k w' := by
  obtain ⟨τ, σ, M, R, h1, h2, h3, h4⟩ := h
  exact ⟨τ, σ, M, R, h1.below hb, h2.below hb, h3.below hb, h4⟩
theorem Two.add {n p b k : Nat} {w0 w w' : World} {zs : List Nat} (h : Two n w0 zs p b k w) (hb : Below w.heap.size w w') {g : Nat} (hg : w.heap.size ≤ g) (hg' : g < w'.heap.size) : Two n w0 (g :: zs) p b k w' := by
  obtain ⟨τ, σ, M, R, h1, h2, h3, h4⟩ := h
  have ht := mem_zero h2 hg
  have hs := h3.zero hg
  have h1' := h1.below hb
  refine ⟨τ, σ, M, R, ⟨h1'.ap, fun j hj => ?_, fun j hj => ?_, h1'.nl, h1'.kept⟩, h2.below hb, h3.below hb, h4⟩
  · rcases hj with hj | hj
    · exact h1'.z j (.inl hj)
    · rcases List.mem_cons.1 hj with rfl | hj
      · exact ⟨ht, hs⟩
      · exact h1'.z j (.inr hj)
  · rcases List.mem_cons.1 hj with rfl | hj
    · exact hg'
    · exact h1'.zl j hj
theorem Two.drop {n p b k : Nat} {w0 w : World} {zs zs' : List Nat} (h : Two n w0 zs p b k w) (hz : ∀ j ∈ zs', j ∈ zs) : Two n w0 zs' p b k w := by
  obtain ⟨τ, σ, M, R, h1, h4⟩ := h
  exact ⟨τ, σ, M, R, ⟨h1.ap, fun j hj => h1.z j (hj.imp id (hz j)), fun j hj => h1.zl j (hz j hj), h1.nl, h1.kept⟩, h4⟩
theorem Two.more {n p b k k' : Nat} {w0 w : World} {zs : List Nat} (h : Two n w0 zs p b k w) (hk : k ≤ k') : Two n w0 zs p b k' w := by
  obtain ⟨τ, σ, M, R, h1, h2, h3, h4, h5, h6⟩ := h
  exact ⟨τ, σ, M, R, h1, h2, h3, h4, h5.more hk, Nat.le_trans h6 hk⟩
theorem Two.kept {n p b k : Nat} {w0 w : World} {zs : List Nat} (h : Two n w0 zs p b k w) : Below n w0 w := by obtain ⟨_, _, _, _, h, _⟩ := h; exact h.kept
theorem Two.nl {n p b k : Nat} {w0 w : World} {zs : List Nat} (h : Two n w0 zs p b k w) : n ≤ w.heap.size := by obtain ⟨_, _, _, _, h, _⟩ := h; exact h.nl
/-- A cell of a block that is neither's is written. -/
theorem Two.store {n p b k : Nat} {w0 w : World} {zs : List Nat} (h : Two n w0 zs p b k w) {g : Nat} (hg : g ∈ zs) (hn : n ≤ g) (o : Nat) (u : Value) : Two n w0 zs p b k (w.setCell ⟨g, o, none⟩ u) := by
  obtain ⟨τ, σ, M, R, h1, ⟨V, h2⟩, ⟨V', h3⟩, h4⟩ := h
  have hs : w.heap.size = (w.setCell ⟨g, o, none⟩ u).heap.size := (size_setCell _ _ _).symm
  obtain ⟨ht, hu⟩ := h1.z g (.inr hg)
  refine ⟨τ, σ, M, R, ⟨h1.ap, h1.z, fun j hj => by rw [← hs]; exact h1.zl j hj, by rw [← hs]; exact h1.nl, h1.kept.setCell hn _⟩,
    ⟨V, h2.keep ⟨Nat.le_of_eq hs, fun i hi h0 _ => Below.heap_setCell _ _ _ _ (fun e => h0 (by rw [e]; exact ht))⟩ (fun _ _ => rfl) fun i hi => by rw [← hs]; exact h2.tz i hi⟩,
    ⟨V', h3.keep ⟨Nat.le_of_eq hs, fun i hi h0 _ => Below.heap_setCell _ _ _ _ (fun e => h0 (by rw [e]; exact hu))⟩ (fun _ _ => rfl) fun i hi => by rw [← hs]; exact h3.tz i hi⟩, h4⟩
/-- What is neither's is as it was. -/
def KeepZ (n : Nat) (zs : List Nat) (w w' : World) : Prop := w.heap.size ≤ w'.heap.size ∧ ∀ j, j < n ∨ j ∈ zs → w'.heap[j]? = w.heap[j]?
theorem TwoIs.keepz {n : Nat} {w0 w w' : World} {zs : List Nat} {τ σ τ' : Nat → Nat} (h : TwoIs n w0 zs τ σ w) (hs : Step τ τ' w w') : KeepZ n zs w w' :=
  ⟨hs.bel.size, fun j hj => hs.out j (hj.elim (fun q => Nat.lt_of_lt_of_le q h.nl) (h.zl j)) (h.z j hj).1⟩
theorem TwoIs.keepz2 {n : Nat} {w0 w w' : World} {zs : List Nat} {τ σ σ' : Nat → Nat} (h : TwoIs n w0 zs τ σ w) (hs : Step σ σ' w w') : KeepZ n zs w w' :=
  ⟨hs.bel.size, fun j hj => hs.out j (hj.elim (fun q => Nat.lt_of_lt_of_le q h.nl) (h.zl j)) (h.z j hj).2⟩
theorem KeepZ.sl {n : Nat} {zs : List Nat} {w w' : World} (h : KeepZ n zs w w') {v : Value} {l : List Batch.Ch} (hv : Batch.Sl w v l) (hz : ∀ g, v.ownBlock = some g → g < n ∨ g ∈ zs) : Batch.Sl w' v l := by
  obtain ⟨ao, cp, rfl, h1, h2⟩ := hv
  refine ⟨ao, cp, rfl, ?_, h2⟩
  rcases h1 with h1 | ⟨b', off, rfl, h3⟩
  · exact .inl h1
  · refine .inr ⟨b', off, rfl, fun i x hx => ?_⟩
    obtain ⟨c0, c1, c2⟩ := h3 i x hx
    have hb := h.2 b' (hz b' rfl)
    have e : ∀ o, w'.cell? ⟨b', o, none⟩ = w.cell? ⟨b', o, none⟩ := fun o => World.cell?_of_block (w := w) hb
    exact ⟨(e _).trans c0, (e _).trans c1, (e _).trans c2⟩
theorem KeepZ.cell {n : Nat} {zs : List Nat} {w w' : World} (h : KeepZ n zs w w') {g : Nat} (hg : g ∈ zs) (o : Nat) : w'.cell? ⟨g, o, none⟩ = w.cell? ⟨g, o, none⟩ := World.cell?_of_block (w := w) (h.2 g (.inr hg))
theorem KeepZ.frozen {n : Nat} {zs : List Nat} {w w' : World} (h : KeepZ n zs w w') {g : Nat} (hg : g ∈ zs) (o : Nat) : w'.frozen? ⟨g, o, none⟩ = w.frozen? ⟨g, o, none⟩ := World.frozen?_of_block (w := w) (h.2 g (.inr hg))

/-! ### an access of any kind -/
def ldX (M : St) (who q a : Int) : Int := if q = 0 then loadV M who a else if q = 7 then wakeV M who a else 0
def ldL (M : St) (who q a : Int) : List Batch.Ch := if q = 2 then getV M who a else []
def ldO (M : St) (who q a : Int) : Bool := if q = 4 then takeV M who a else if q = 5 then relV M who 5 a else if q = 6 then relV M who 6 a else true
def ldS (M : St) (who q a v : Int) (l : List Batch.Ch) : St := if q = 0 then lookS M who 0 a else if q = 1 then storeS M who a v else if q = 2 then lookS M who 2 a else if q = 3 then setS M who a l else if q = 4 then takeS M who a else if q = 5 then relS M who 5 a else if q = 6 then sleepS M who a else wakeS M who a
def okc (M : St) (who q a : Int) : Option Bool := if q = 4 ∨ q = 5 ∨ q = 6 then some (ldO M who q a) else none
theorem eight {q : Int} (h : 0 ≤ q ∧ q ≤ 7) : q = 0 ∨ q = 1 ∨ q = 2 ∨ q = 3 ∨ q = 4 ∨ q = 5 ∨ q = 6 ∨ q = 7 := by omega
theorem good_any {k : Nat} {M : St} (h : Mm.Good 4 3 3 k M) {who q a v : Int} {l : List Batch.Ch} (hq : 0 ≤ q ∧ q ≤ 7) (hw : I64 who) (ha : I64 a) (hl : l.length ≤ 1000 ∧ ∀ x ∈ l, x.Wf) : Mm.Good 4 3 3 (k + 1) (ldS M who q a v l) := by
  rcases eight hq with rfl | rfl | rfl | rfl | rfl | rfl | rfl | rfl
  · exact h.look hw (by decide) ha
  · exact h.store hw ha
  · exact h.look hw (by decide) ha
  · exact h.set hw ha hl
  · exact h.take hw ha
  · exact h.rel hw (by decide) ha
  · exact h.sleep hw ha
  · exact h.wake hw ha
theorem ldo_any {w : World} {τ : Nat → Nat} {p k : Nat} {M : St} {l : List Batch.Ch} (hM : MemAt τ w p M) (hG : Mm.Good 4 3 3 k M) (hk : k ≤ 100000) (who q a v : Int) (hq : 0 ≤ q ∧ q ≤ 7) (vo : Option Addr) (vn vc : Nat) (hw : I64 who) (ha : I64 a) (hrd : Batch.Rd w (.slice vo vn vc) l) (hll : l.length ≤ 1000) :
    Calls Try.prog 18 #[.pointer (some ⟨p, 0, none⟩), .agg #[.int .i64 who, .int .i64 q, .int .i64 a, .int .u64 v, .slice vo vn vc]] w (LdP τ p w (ldX M who q a) (ldL M who q a) (ldO M who q a) (ldS M who q a v l)) := by
  rcases eight hq with rfl | rfl | rfl | rfl | rfl | rfl | rfl | rfl
  · exact ld_0 hM hG (by decide) (by decide) (by decide) hk who a v vo vn vc hw ha
  · exact ld_1 hM hG (by decide) (by decide) (by decide) hk who a v vo vn vc hw ha
  · exact ld_2 hM hG (by decide) (by decide) (by decide) hk who a v vo vn vc hw ha
  · exact ld_3 hM hG (by decide) (by decide) (by decide) hk who a v vo vn vc hw ha hrd hll
  · exact ld_4 hM hG (by decide) (by decide) (by decide) hk who a v vo vn vc hw ha
  · exact ld_5 hM hG (by decide) (by decide) (by decide) hk who a v vo vn vc hw ha
  · exact ld_6 hM hG (by decide) (by decide) (by decide) hk who a v vo vn vc hw ha
  · exact ld_7 hM hG (by decide) (by decide) (by decide) hk who a v vo vn vc hw ha
theorem both_any {M : St} {R : Rs} {k : Nat} (hS : Sim M R) (hG : Mm.Good 4 3 3 k M) (who q a v : Int) (hq : 0 ≤ q ∧ q ≤ 7) {l : List Batch.Ch} (hll : l.length ≤ 1000) : ∃ R', Sim (ldS M who q a v l) R' ∧ R'.bd.length ≤ R.bd.length + 1 ∧ ∀ (σ : Nat → Nat) (b : Nat) (w : World) (vb : Value), Batch.Sl w vb l → RefAt σ w b R → RBnd R →
    Calls Try.prog 19 #[.pointer (some ⟨b, 0, none⟩), .int .i64 who, .int .i64 q, .int .i64 a, .int .u64 v, vb] w (RdoQ σ b w (ldX M who q a) (ldL M who q a) (okc M who q a) R') := by
  rcases eight hq with rfl | rfl | rfl | rfl | rfl | rfl | rfl | rfl
  · obtain ⟨R', h1, h2, h3⟩ := both_0 hS who a v
    exact ⟨R', h1, h2, fun σ b w vb _ hR hB => h3 σ b w vb hR hB⟩
  · obtain ⟨R', h1, h2, h3⟩ := both_1 hS who a v
    exact ⟨R', h1, h2, fun σ b w vb _ hR hB => h3 σ b w vb hR hB⟩
  · obtain ⟨R', h1, h2, h3⟩ := both_2 hS who a v fun l hl => (hG.bx l hl).2
    exact ⟨R', h1, h2, fun σ b w vb _ hR hB => h3 σ b w vb hR hB⟩
  · obtain ⟨R', h1, h2, h3⟩ := both_3 hS who a v hll
    exact ⟨R', h1, h2, fun σ b w vb hl hR hB => h3 σ b w vb hl hR hB⟩
  · obtain ⟨R', h1, h2, h3⟩ := both_4 hS who a v
    exact ⟨R', h1, h2, fun σ b w vb _ hR hB => h3 σ b w vb hR hB⟩
  · obtain ⟨R', h1, h2, h3⟩ := both_5 hS who a v
    exact ⟨R', h1, h2, fun σ b w vb _ hR hB => h3 σ b w vb hR hB⟩
  · obtain ⟨R', h1, h2, h3⟩ := both_6 hS who a v
    exact ⟨R', h1, h2, fun σ b w vb _ hR hB => h3 σ b w vb hR hB⟩
  · obtain ⟨R', h1, h2, h3⟩ := both_7 hS who a v
    exact ⟨R', h1, h2, fun σ b w vb _ hR hB => h3 σ b w vb hR hB⟩

/-! ### a round -/
/-- Behind do, ahead of Do. -/
def Half (n : Nat) (w0 : World) (zs : List Nat) (p b k : Nat) (who q a v : Int) (l : List Batch.Ch) (x : Int) (L : List Batch.Ch) (oc : Option Bool) (vb : Value) (w : World) : Prop :=
  ∃ (τ σ : Nat → Nat) (M : St) (R : Rs), TwoIs n w0 zs τ σ w ∧ MemAt τ w p (ldS M who q a v l) ∧ RefAt σ w b R ∧ Sim M R ∧ Mm.Good 4 3 3 k M ∧ R.bd.length ≤ k ∧ x = ldX M who q a ∧ L = ldL M who q a ∧ oc = okc M who q a ∧ Batch.Sl w vb L ∧ (∀ g, vb.ownBlock = some g → σ g = 0) ∧ L.length ≤ 1000
def DoQ (n : Nat) (w0 : World) (zs : List Nat) (p b k : Nat) (who q a v : Int) (l : List Batch.Ch) (w : World) (e : Ending) (w' : World) : Prop :=
  ∃ x L oc vb ok, e = .returned (.tuple #[.int .u64 x, vb, .bool ok]) ∧ (q = 4 ∨ q = 5 ∨ q = 6 → oc = some ok) ∧ Half n w0 zs p b k who q a v l x L oc vb w' ∧ KeepZ n zs w w'
theorem ldL_len {k : Nat} {M : St} (h : Mm.Good 4 3 3 k M) (who q a : Int) : (ldL M who q a).length ≤ 1000 := by
  unfold ldL getV
  split
  · split
    · rw [List.getD_eq_getElem?_getD]
      cases hx : M.bs[a.toNat]? with
      | none => simp
      | some l => exact (h.bx l (List.mem_of_getElem? hx)).1
    · simp
  · simp
theorem two_do {n p b k : Nat} {w0 w : World} {zs : List Nat} {l : List Batch.Ch} (hT : Two n w0 zs p b k w) (hk : k ≤ 1000) (who q a v : Int) (hq : 0 ≤ q ∧ q ≤ 7) (vo : Option Addr) (vn vc : Nat) (hw : I64 who) (ha : I64 a) (hrd : Batch.Rd w (.slice vo vn vc) l) (hll : l.length ≤ 1000) :
    Calls Try.prog 18 #[.pointer (some ⟨p, 0, none⟩), .agg #[.int .i64 who, .int .i64 q, .int .i64 a, .int .u64 v, .slice vo vn vc]] w (DoQ n w0 zs p b k who q a v l w) := by
  obtain ⟨τ, σ, M, R, h1, h2, h3, h4, h5, h6⟩ := hT
  refine (ldo_any h2 h5 (by omega) who q a v hq vo vn vc hw ha hrd hll).mono fun e w' ⟨vb, he, hsl, hown, τ', hm, hs⟩ => ?_
  obtain ⟨r1, r2⟩ := ref_beside h1.ap h3 hs
  refine ⟨_, _, okc M who q a, vb, _, he, fun h => if_pos h, ⟨τ', σ, M, R, ⟨r2, fun j hj => ?_, fun j hj => Nat.lt_of_lt_of_le (h1.zl j hj) hs.bel.size, Nat.le_trans h1.nl hs.bel.size, h1.kept.trans (hs.below h1.nl fun j hj => (h1.z j (.inl hj)).1)⟩, hm, r1, h4, h5, h6, rfl, rfl, rfl, hsl, fun g hg => h3.zero (hown g hg), ldL_len h5 who q a⟩, h1.keepz hs⟩
  have hjs : j < w.heap.size := hj.elim (fun q => Nat.lt_of_lt_of_le q h1.nl) (h1.zl j)
  exact ⟨(hs.ext j hjs).trans (h1.z j hj).1, (h1.z j hj).2⟩
def RoQ (n : Nat) (w0 : World) (zs : List Nat) (p b k : Nat) (x : Int) (L : List Batch.Ch) (oc : Option Bool) (vb : Value) (w : World) (e : Ending) (w' : World) : Prop :=
  ∃ box ok, e = .returned (.tuple #[.int .u64 x, box, .bool ok]) ∧ (∀ o, oc = some o → ok = o) ∧ Batch.Rd w' box L ∧ Batch.Rd w' vb L ∧ Two n w0 zs p b (k + 1) w' ∧ KeepZ n zs w w'
theorem half_do {n p b k : Nat} {w0 w : World} {zs : List Nat} {l : List Batch.Ch} {who q a v x : Int} {L : List Batch.Ch} {oc : Option Bool} {vb vl : Value} (hT : Half n w0 zs p b k who q a v l x L oc vb w) (hk : k ≤ 1000) (hq : 0 ≤ q ∧ q ≤ 7) (hw : I64 who) (ha : I64 a) (hl : Batch.Sl w vl l) (hll : l.length ≤ 1000) :
    Calls Try.prog 19 #[.pointer (some ⟨b, 0, none⟩), .int .i64 who, .int .i64 q, .int .i64 a, .int .u64 v, vl] w (RoQ n w0 zs p b k x L oc vb w) := by
  obtain ⟨τ, σ, M, R, h1, h2, h3, h4, h5, h6, rfl, rfl, rfl, h7, h8, _⟩ := hT
  obtain ⟨R', q1, q2, q3⟩ := both_any h4 h5 who q a v hq hll
  refine (q3 σ b w vl hl h3 (rbnd_of h4 h5 h6 (by omega))).mono fun e w' ⟨box, ok', he, hok, hrd, σ', hr, hs⟩ => ?_
  obtain ⟨r1, r2⟩ := mem_beside h1.ap h2 hs
  refine ⟨box, ok', he, hok, hrd, (sl_step h7 h8 hs).rd, ⟨τ, σ', _, R', ⟨r2, fun j hj => ?_, fun j hj => Nat.lt_of_lt_of_le (h1.zl j hj) hs.bel.size, Nat.le_trans h1.nl hs.bel.size, h1.kept.trans (hs.below h1.nl fun j hj => (h1.z j (.inl hj)).2)⟩, r1, hr, q1, good_any h5 hq hw ha ⟨hll, hl.wf⟩, by omega⟩, h1.keepz2 hs⟩
  have hjs : j < w.heap.size := hj.elim (fun q => Nat.lt_of_lt_of_le q h1.nl) (h1.zl j)
  exact ⟨(h1.z j hj).1, (hs.ext j hjs).trans (h1.z j hj).2⟩
theorem Half.len {n p b k : Nat} {w0 w : World} {zs : List Nat} {l : List Batch.Ch} {who q a v x : Int} {L : List Batch.Ch} {oc : Option Bool} {vb : Value} (hT : Half n w0 zs p b k who q a v l x L oc vb w) : L.length ≤ 1000 := by
  obtain ⟨_, _, _, _, _, _, _, _, _, _, _, _, _, _, _, h⟩ := hT; exact h

/-! ### looks -/
theorem two_looks {n p b k : Nat} {w0 w : World} {zs : List Nat} (hT : Two n w0 zs p b k w) (hk : k ≤ 1000) (who : Int) (hw : I64 who) : ∃ (N : Nat) (s : Bool) (go : Option Addr) (cap : Nat), N ≤ 1000 ∧ ∀ wx, Below w.heap.size w wx → wx.cell? ⟨b, 4, none⟩ = some (.slice go N cap) ∧
    (Calls Try.prog 22 #[.pointer (some ⟨p, 0, none⟩)] wx fun e w' => e = .returned (.int .i64 (N : Int)) ∧ wx = w') ∧
    (Calls Try.prog 23 #[.pointer (some ⟨p, 0, none⟩), .int .i64 who] wx fun e w' => e = .returned (.bool s) ∧ wx = w') ∧
    Calls Try.prog 24 #[.pointer (some ⟨b, 0, none⟩), .int .i64 who] wx fun e w' => e = .returned (.bool s) ∧ wx = w' := by
  obtain ⟨τ, σ, M, R, h1, h2, h3, h4, h5, h6⟩ := hT
  obtain ⟨go, cap, hcap⟩ : ∃ go cap, ∀ wx, Below w.heap.size w wx → wx.cell? ⟨b, 4, none⟩ = some (.slice go M.lg.length cap) := by
    obtain ⟨V, h3⟩ := h3
    obtain ⟨_, _, _, _, c4⟩ := five_op h3.st
    obtain ⟨go, cap, hv⟩ := row_form h3.lg
    rw [hv, h4.lg] at c4
    exact ⟨go, cap, fun wx hb => (hb.cell (p := ⟨b, 4, none⟩) (Lib.lt_of_cell c4)).trans c4⟩
  refine ⟨M.lg.length, M.sp who, go, cap, Nat.le_trans h5.l hk, fun wx hb => ⟨hcap wx hb, time_any (h2.below hb), asleep_any (h2.below hb) who hw, ?_⟩⟩
  rw [h4.sp who]
  exact rasleep_any (h3.below hb) (by omega) who
theorem two_hold {n p b k : Nat} {w0 w : World} {zs : List Nat} (hT : Two n w0 zs p b k w) (hk : k ≤ 1000) {i : Nat} (hi : i < 3) : ∃ x g cap, w.cell? ⟨b, 2, none⟩ = some (.slice (some ⟨g, 0, none⟩) 3 cap) ∧ w.cell? ⟨g, i, none⟩ = some (.int .i64 x) ∧
    ∀ wx, Below w.heap.size w wx → Calls Try.prog 25 #[.pointer (some ⟨p, 0, none⟩), .int .i64 (i : Int)] wx fun e w' => e = .returned (.int .i64 x) ∧ wx = w' := by
  obtain ⟨τ, σ, M, R, h1, h2, ⟨V, h3⟩, h4, h5, h6⟩ := hT
  obtain ⟨L, hL⟩ : ∃ L, M.ls[i]? = some L := ⟨_, List.getElem?_eq_getElem (by rw [h5.c]; exact hi)⟩
  obtain ⟨_, _, c2, _, _⟩ := five_op h3.st
  obtain ⟨g, cap, hv, _, _, hat, _⟩ := row_at h3.la (h4.la i L hL).1
  rw [hv, h4.ll, h5.c] at c2
  refine ⟨_, g, cap, c2, ?_, fun wx hb => holder_any (h2.below hb) (h5.bnd (by decide) (by decide) (by decide) (by omega)).1.1 i hL⟩
  have := hat 0 _ (by decide) rfl
  simpa [intK] using this
/-- Two at the law's beginning. -/
theorem two_start {w w1 w2 : World} {p b : Nat} {τ σ : Nat → Nat} (hm : MemAt τ w1 p (initS 4 3 3)) (ht : ∀ j, j < w.heap.size → τ j = 0) (hb1 : Below w.heap.size w w1) (hr : RefAt σ w2 b (initR 4 3 3 3)) (hs : ∀ j, j < w1.heap.size → σ j = 0) (hb2 : Below w1.heap.size w1 w2) : Two w.heap.size w [] p b 0 w2 := by
  have h1 := hb1.size
  have h2 := hb2.size
  refine ⟨τ, σ, _, _, ⟨fun i => ?_, fun j hj => ?_, by simp, by omega, hb1.trans (hb2.mono h1)⟩, hm.below hb2, hr, sim_init 4 3 3, good_init 4 3 3, by simp [initR]⟩
  · by_cases hi : i < w1.heap.size
    · exact .inr (hs i hi)
    · exact .inl (mem_zero hm (by omega))
  · rcases hj with hj | hj
    · exact ⟨ht j hj, hs j (by omega)⟩
    · simp at hj
theorem Two.addOwn {n p b k : Nat} {w0 w w' : World} {zs : List Nat} (h : Two n w0 zs p b k w) (hb : Below w.heap.size w w') {T : TypeId} {v : Value} {l : List Batch.Ch} (ho : Batch.Own w' w.heap.size T v l) : Two n w0 (v.ownBlock.toList ++ zs) p b k w' := by
  cases hv : v.ownBlock with
  | none => exact h.below hb
  | some g =>
    obtain ⟨h1, h2⟩ := World.ownsRow.lt ho g hv
    exact h.add hb h1 h2
theorem two_end {n p b k : Nat} {w0 w : World} {zs : List Nat} (hT : Two n w0 zs p b k w) (hk : k ≤ 1000) : ∃ lg vg, w.cell? ⟨b, 4, none⟩ = some vg ∧ Rr evK w vg lg ∧ lg.length ≤ 1000 ∧
    (Calls Try.prog 27 #[.pointer (some ⟨p, 0, none⟩)] w fun e w' => ∃ v, e = .returned v ∧ Rr evK w' v lg ∧ Below w.heap.size w w') := by
  obtain ⟨τ, σ, M, R, h1, h2, ⟨V, h3⟩, h4, h5, h6⟩ := hT
  obtain ⟨_, _, _, _, c4⟩ := five_op h3.st
  have hrr : Rr evK w V.vg M.lg := by rw [← h4.lg]; exact (h3.lg.1.sl (by rw [h4.lg]; exact h5.ev)).rr
  exact ⟨M.lg, V.vg, c4, hrr, Nat.le_trans h5.l hk, (log_any h2 (h5.bnd (by decide) (by decide) (by decide) (by omega)).1.1).mono fun e w' ⟨v, he, ho, hb⟩ => ⟨v, he, (ho.sl h5.ev).rr, hb⟩⟩
theorem two_holdno {n p b k : Nat} {w0 w : World} {zs : List Nat} (hT : Two n w0 zs p b k w) (hk : k ≤ 1000) (l : Int) (hl : I64 l) (hn : l < 0 ∨ 3 ≤ l) :
    Calls Try.prog 25 #[.pointer (some ⟨p, 0, none⟩), .int .i64 l] w fun e w' => e = .returned (.int .i64 (-1)) ∧ w = w' := by
  obtain ⟨τ, σ, M, R, h1, h2, h3, h4, h5, h6⟩ := hT
  exact holder_no h2 (h5.bnd (by decide) (by decide) (by decide) (by omega)).1.1 l hl (by rw [h5.c]; exact hn)
end Go.Proofs.Ytneegocbknkhjaa.Rm
