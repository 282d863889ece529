/-
  PACKAGE script: a line, a graph's text, and what is made of any text, as the program does it and as the document does: the mathematics.
-/
import Derived.Test.YtdbaacalfbbdiaaGreatDoorJoined2
import Derived.Test.YtdbaacalfbbdiaaGreatDoorGMem
import Derived.Test.YtdbaacalfbbdiaaGreatDoorBatchMath
import Derived.Lib.Split
import Derived.Lib.Join
import Derived.Lib.IndexLaws
import Derived.Lib.IndexMore
import Derived.Lib.AtoiAllCases
import Derived.Lib.ParseIntBCases
import Derived.Lib.ItoaNum
set_option linter.unusedVariables false
set_option linter.unusedSimpArgs false
namespace Go.Proofs.YtdbaacalfbbdiaaGreatDoor.Sc
open Go.Lib
abbrev Bs := List UInt8
/-! ## Separators -/
theorem idx_none {l : Bs} {c : UInt8} (h : c ∉ l) : Lib.index l [c] = -1 := by
  refine Lib.index_none fun j _ => ?_
  cases hj : Lib.occAt l [c] j
  · rfl
  · exact absurd (List.mem_of_getElem? (Lib.occAt_head rfl hj)) h
theorem idx_some {l r : Bs} {c : UInt8} (h : c ∉ l) : Lib.index (l ++ c :: r) [c] = l.length := by
  refine Lib.index_first (by simp) ?_ fun j hj => ?_
  · unfold Lib.occAt; simp
  · cases ho : Lib.occAt (l ++ c :: r) [c] j
    · rfl
    · have h1 := Lib.occAt_head rfl ho
      rw [List.getElem?_append_left hj] at h1
      exact absurd (List.mem_of_getElem? h1) h
theorem cut_none {l : Bs} {c : UInt8} (h : c ∉ l) : Lib.cut l [c] = (l, [], false) := by unfold Lib.cut; rw [idx_none h, if_neg (by omega)]
theorem cut_some {l r : Bs} {c : UInt8} (h : c ∉ l) : Lib.cut (l ++ c :: r) [c] = (l, r, true) := by
  unfold Lib.cut
  rw [idx_some h, if_pos (by omega)]
  simp
theorem join_two (x y : Bs) (r : List Bs) (c : UInt8) : Lib.join (x :: y :: r) [c] = x ++ c :: Lib.join (y :: r) [c] := by
  rw [Lib.join_cons, Lib.join_cons]; simp [Lib.joinTail]
theorem splitK_join {c : UInt8} : ∀ (xs : List Bs) (k : Nat), xs ≠ [] → (∀ x ∈ xs, c ∉ x) → xs.length ≤ k + 1 → Lib.splitK [c] 0 k (Lib.join xs [c]) = xs
  | [], _, h, _, _ => absurd rfl h
  | [x], k, _, h, _ => by
    rw [Lib.join_one]
    cases k with
    | zero => rfl
    | succ k => unfold Lib.splitK; rw [idx_none (h x (by simp))]; rfl
  | x :: y :: r, 0, _, _, hl => by simp at hl
  | x :: y :: r, k + 1, _, h, hl => by
    rw [join_two]
    unfold Lib.splitK
    rw [idx_some (h x (by simp))]
    have e : (((x.length : Nat) : Int) == -1) = false := by rw [beq_eq_false_iff_ne]; omega
    rw [e, if_neg (by decide)]
    have ih := splitK_join (y :: r) k (by simp) (fun z hz => h z (List.mem_cons_of_mem _ hz)) (by simp at hl ⊢; omega)
    simp [ih]
theorem join_len {c : UInt8} (xs : List Bs) : xs.length ≤ (Lib.join xs [c]).length + 1 := by
  cases xs with
  | nil => simp
  | cons x r => rw [Lib.join_length]; simp
def glue (p : Bs) : List Bs → List Bs
  | [] => [p]
  | h :: t => (p ++ h) :: t
def splR (c : UInt8) : Bs → List Bs
  | [] => [[]]
  | b :: r => if b = c then [] :: splR c r else glue [b] (splR c r)
theorem splR_ne (c : UInt8) : ∀ l, splR c l ≠ []
  | [] => by simp [splR]
  | b :: r => by
    unfold splR
    split
    · simp
    · cases splR c r <;> simp [glue]
theorem glue_nil {l : List Bs} (h : l ≠ []) : glue [] l = l := by
  cases l with
  | nil => exact absurd rfl h
  | cons x r => simp [glue]
theorem glue_glue (p q : Bs) {l : List Bs} (h : l ≠ []) : glue p (glue q l) = glue (p ++ q) l := by
  cases l with
  | nil => exact absurd rfl h
  | cons x r => simp [glue]
theorem splR_app {c : UInt8} : ∀ {l : Bs} (m : Bs), c ∉ l → splR c (l ++ m) = glue l (splR c m)
  | [], m, _ => (glue_nil (splR_ne c m)).symm
  | b :: r, m, h => by
    have hb : b ≠ c := fun e => h (by simp [e])
    have e : splR c (b :: (r ++ m)) = glue [b] (splR c (r ++ m)) := if_neg hb
    rw [List.cons_append, e, splR_app m (fun hm => h (List.mem_cons_of_mem _ hm)), glue_glue _ _ (splR_ne c m)]
    rfl
theorem splR_one {c : UInt8} {l : Bs} (h : c ∉ l) : splR c l = [l] := by
  have := splR_app [] h
  rw [List.append_nil] at this
  rw [this]
  simp [splR, glue]
theorem splR_two {c : UInt8} {l : Bs} (h : c ∉ l) (m : Bs) : splR c (l ++ c :: m) = l :: splR c m := by
  rw [splR_app _ h]
  conv => lhs; unfold splR
  rw [if_pos rfl]
  simp [glue]
theorem splR_join {c : UInt8} : ∀ (xs : List Bs), xs ≠ [] → (∀ x ∈ xs, c ∉ x) → splR c (Lib.join xs [c]) = xs
  | [], h, _ => absurd rfl h
  | [x], _, h => by rw [Lib.join_one]; exact splR_one (h x (by simp))
  | x :: y :: r, _, h => by
    rw [join_two, splR_two (h x (by simp)), splR_join (y :: r) (by simp) (fun z hz => h z (List.mem_cons_of_mem _ hz))]
/-! ## Numbers -/
def Clean (l : Bs) : Prop := (32 : UInt8) ∉ l ∧ (44 : UInt8) ∉ l ∧ (47 : UInt8) ∉ l
theorem clean_of {l : Bs} (h : ∀ b ∈ l, b.toNat = 45 ∨ 48 ≤ b.toNat) : Clean l :=
  ⟨fun hm => by have := h _ hm; revert this; decide, fun hm => by have := h _ hm; revert this; decide, fun hm => by have := h _ hm; revert this; decide⟩
theorem dec_digit : ∀ (u : Nat), ∀ b ∈ Lib.decDigits u, 48 ≤ b.toNat ∧ b.toNat ≤ 57 := by
  intro u
  induction u using Nat.strongRecOn with
  | ind u ih =>
    intro b hb
    rw [Lib.decDigits] at hb
    split at hb
    · rename_i h
      obtain rfl := List.mem_singleton.1 hb
      rw [UInt8.toNat_ofNat']; omega
    · rename_i h
      rcases List.mem_append.1 hb with hb | hb
      · exact ih _ (by omega) b hb
      · obtain rfl := List.mem_singleton.1 hb
        rw [UInt8.toNat_ofNat']; omega
theorem dec_ne (u : Nat) : Lib.decDigits u ≠ [] := fun e => by
  have := congrArg List.length e
  rw [Lib.decDigits_length] at this
  have := Lib.nDigits_pos u
  simp_all
theorem itoa_clean (n : Int) : Clean (Lib.itoa n) := by
  refine clean_of fun b hb => ?_
  unfold Lib.itoa at hb
  split at hb
  · rcases List.mem_cons.1 hb with rfl | hb
    · exact .inl rfl
    · exact .inr (dec_digit _ b hb).1
  · exact .inr (dec_digit _ b hb).1
theorem itoa_ne (n : Int) : Lib.itoa n ≠ [] := by
  unfold Lib.itoa
  split
  · simp
  · exact dec_ne _
def timeL (t : Int) : Bs := (Stamp.textS t).data.toList
theorem timeL_eq (t : Int) : timeL t = if t = 18446744073709551615 then [110, 101, 118, 101, 114] else Lib.decDigits t.toNat := by
  unfold timeL Stamp.textS
  split <;> rfl
theorem timeL_clean (t : Int) : Clean (timeL t) := by
  rw [timeL_eq]
  refine clean_of fun b hb => ?_
  split at hb
  · right; revert b; decide
  · exact .inr (dec_digit _ b hb).1
theorem timeL_ne (t : Int) : timeL t ≠ [] := by
  rw [timeL_eq]
  split
  · simp
  · exact dec_ne _
def parL (l : Bs) : Option Nat := Stamp.parseE ⟨l.toArray⟩
theorem parL_time {t : Int} (h : Stamp.U t) : parL (timeL t) = some t.toNat := by
  have e : (⟨(timeL t).toArray⟩ : ByteArray) = Stamp.textS t := by unfold timeL; apply ByteArray.ext; simp
  unfold parL
  rw [e]
  exact Stamp.parseE_text h
theorem parL_U {l : Bs} {u : Nat} (h : parL l = some u) : Stamp.U u := (Stamp.parseE_some h).1
theorem mag_dec {u : Nat} (h : u ≤ 18446744073709551615) : Lib.parseMag (Lib.decDigits u) = .ok u := by
  have := Stamp.M_digits u 0 [] (by omega)
  rw [List.append_nil, Nat.zero_mul, Nat.zero_add] at this
  rw [← Lib.parseUintB_64]
  unfold Lib.parseUintB
  rw [if_neg (dec_ne u)]
  exact this
/-- What the program's Atoi gives, whatever the error. -/
def atoiV (l : Bs) : Int := match Lib.atoiAll l with
  | .ok v => v
  | .range => Lib.atoiSat l
  | _ => 0
theorem atoiV_itoa {n : Int} (h0 : -9223372036854775808 < n) (h1 : n < 9223372036854775808) : atoiV (Lib.itoa n) = n := by
  unfold atoiV Lib.itoa
  by_cases hn : n < 0
  · rw [if_pos hn, Lib.atoiAll_minus, mag_dec (by omega)]
    unfold Lib.signed
    dsimp only
    rw [if_neg (by omega)]
    dsimp only
    omega
  · rw [if_neg hn]
    obtain ⟨c, r, e⟩ : ∃ c r, Lib.decDigits n.toNat = c :: r := by
      cases h : Lib.decDigits n.toNat with
      | nil => exact absurd h (dec_ne _)
      | cons c r => exact ⟨c, r, rfl⟩
    have hc := dec_digit n.toNat c (by rw [e]; simp)
    rw [e, Lib.atoiAll_plain c r (by omega) (by omega), ← e, mag_dec (by omega)]
    unfold Lib.signless
    dsimp only
    rw [if_neg (by omega)]
    dsimp only
    omega
def magR (d : Bs) : Option Nat := if 7 < d.length then none else parL d
def wrapI (x : Nat) : Int := if x < 9223372036854775808 then x else (x : Int) - 18446744073709551616
/-- The document's number of a word. -/
def sgnR (l : Bs) : Int := if l.head? = some 45 then -1 else 1
def tlR (l : Bs) : Bs := if l.head? = some 45 then l.tail else l
def intR (l : Bs) : Int := match magR (tlR l) with
  | some x => sgnR l * wrapI x
  | none => 100000000
theorem parL_dec {u : Nat} (h : u < 18446744073709551615) : parL (Lib.decDigits u) = some u := by
  have h1 := parL_time (t := (u : Int)) (by unfold Stamp.U; omega)
  rw [timeL_eq, if_neg (by omega)] at h1
  simpa using h1
theorem intR_itoa {n : Int} (h0 : -10000000 < n) (h1 : n < 10000000) : intR (Lib.itoa n) = n := by
  have hl : ∀ u : Nat, u < 10000000 → (Lib.decDigits u).length ≤ 7 := fun u hu => by
    rw [Lib.decDigits_length]
    refine Classical.byContradiction fun h => ?_
    have h2 : 10 ^ 7 ≤ u := by
      have h3 : ∀ (k v : Nat), k + 1 ≤ Lib.nDigits v → 1 ≤ k → 10 ^ k ≤ v := by
        intro k
        induction k with
        | zero => intro v _ h; omega
        | succ k ih =>
          intro v hv _
          by_cases hs : v < 10
          · rw [Lib.nDigits_small hs] at hv; omega
          · rw [Lib.nDigits_big hs] at hv
            by_cases hk : k = 0
            · subst hk; rw [Nat.zero_add, Nat.pow_one]; omega
            · have := ih (v / 10) (by omega) (by omega)
              rw [Nat.pow_succ]; omega
      exact h3 7 u (by omega) (by omega)
    have : (10 : Nat) ^ 7 = 10000000 := by decide
    omega
  unfold intR Lib.itoa
  by_cases hn : n < 0
  · rw [if_pos hn]
    have hm : magR (tlR (45 :: Lib.decDigits n.natAbs)) = some n.natAbs := by
      unfold magR tlR
      have e : (45 :: Lib.decDigits n.natAbs).head? = some 45 := rfl
      rw [if_pos e, List.tail_cons, if_neg (by have := hl n.natAbs (by omega); omega), parL_dec (by omega)]
    rw [hm]
    unfold sgnR wrapI
    dsimp only
    have e : (45 :: Lib.decDigits n.natAbs).head? = some 45 := rfl
    rw [if_pos e, if_pos (by omega)]
    omega
  · rw [if_neg hn]
    have hh : (Lib.decDigits n.toNat).head? ≠ some 45 := fun e => by
      have := dec_digit n.toNat 45 (List.mem_of_mem_head? e)
      revert this; decide
    have hm : magR (tlR (Lib.decDigits n.toNat)) = some n.toNat := by
      unfold magR tlR
      rw [if_neg hh, if_neg (by have := hl n.toNat (by omega); omega), parL_dec (by omega)]
    rw [hm]
    unfold sgnR wrapI
    dsimp only
    rw [if_neg hh, if_pos (by omega)]
    omega
def timeV (l : Bs) : Int := ((parL l).getD 0 : Nat)
theorem timeV_time {t : Int} (h : Stamp.U t) : timeV (timeL t) = t := by
  unfold timeV
  rw [parL_time h]
  unfold Stamp.U at h
  simp
  omega
/-! ## Lines -/
structure Cm where
  k : Int
  h : Int
  p : Int
  t : Int
  l : List Batch.Ch
def wordsL : List Bs := [[111, 112, 101, 110], [97, 100, 118, 97, 110, 99, 101], [99, 108, 111, 115, 101], [117, 112, 100, 97, 116, 101], [102, 114, 111, 110, 116, 115], [100, 111, 110, 101], [119, 97, 105, 116], [115, 104, 117, 116]]
def wdL (k : Int) : Bs := if k < 0 ∨ 7 < k then [] else wordsL.getD k.toNat []
def kindFrom (w : Bs) : List Bs → Nat → Int
  | [], _ => -1
  | x :: r, i => if x = w then (i : Int) else kindFrom w r (i + 1)
def kindOf (w : Bs) : Int := kindFrom w wordsL 0
def FitN (n : Int) : Prop := 0 ≤ n ∧ n ≤ 63
instance (n : Int) : Decidable (FitN n) := inferInstanceAs (Decidable (_ ∧ _))
def FitC (x : Batch.Ch) : Prop := FitN x.p ∧ -1000000 ≤ x.d ∧ x.d ≤ 1000000
instance (x : Batch.Ch) : Decidable (FitC x) := inferInstanceAs (Decidable (_ ∧ _))
def chL (x : Batch.Ch) : Bs := Lib.itoa x.p ++ 47 :: (timeL x.t ++ 47 :: Lib.itoa x.d)
def chsL (l : List Batch.Ch) : Bs := if l = [] ∨ 16 < l.length ∨ ¬ ∀ x ∈ l, FitC x then [] else Lib.join (l.map chL) [44]
def argL (c : Cm) : Bs :=
  if c.k = 0 ∨ c.k = 2 then (if FitN c.h then Lib.itoa c.h else [])
  else if c.k = 1 then (if FitN c.h then Lib.itoa c.h ++ 32 :: timeL c.t else [])
  else if c.k = 3 then chsL c.l
  else if c.k = 5 ∨ c.k = 6 then (if FitN c.p then Lib.itoa c.p ++ 32 :: timeL c.t else [])
  else []
def lineL (c : Cm) : Bs :=
  if c.k = 4 ∨ c.k = 7 then wdL c.k
  else if argL c = [] then [] else wdL c.k ++ 32 :: argL c
def chPV (f : Bs → Int) (part : Bs) : Batch.Ch :=
  let x := Lib.cut part [47]
  let y := Lib.cut x.2.1 [47]
  ⟨f x.1, timeV y.1, f y.2.1⟩
def guessP (s : Bs) : Cm :=
  let x := Lib.cut s [32]
  let y := Lib.cut x.2.1 [32]
  let k := kindOf x.1
  if k = 0 ∨ k = 2 then ⟨k, atoiV x.2.1, 0, 0, []⟩
  else if k = 1 then ⟨k, atoiV y.1, 0, timeV y.2.1, []⟩
  else if k = 3 then ⟨k, 0, 0, 0, (Lib.splitK [44] 0 (min 17 (x.2.1.length + 1) - 1) x.2.1).map (chPV atoiV)⟩
  else if k = 5 ∨ k = 6 then ⟨k, 0, atoiV y.1, timeV y.2.1, []⟩
  else ⟨k, 0, 0, 0, []⟩
def unL : List Bs → Option (List Batch.Ch)
  | [] => some []
  | q :: r => match splR 47 q with
    | [a, b, c] => match parL b with
      | some t => (unL r).map fun l => ⟨intR a, t, intR c⟩ :: l
      | none => none
    | _ => none
def guessR (s : Bs) : Option Cm :=
  let w := splR 32 s ++ [[], [], []]
  let k := kindOf (w.getD 0 [])
  if k = 0 ∨ k = 2 then some ⟨k, intR (w.getD 1 []), 0, 0, []⟩
  else if k = 1 then (parL (w.getD 2 [])).map fun (t : Nat) => ⟨k, intR (w.getD 1 []), 0, t, []⟩
  else if k = 3 then (unL (splR 44 (w.getD 1 []))).map fun l => ⟨k, 0, 0, 0, l⟩
  else if k = 5 ∨ k = 6 then (parL (w.getD 2 [])).map fun (t : Nat) => ⟨k, 0, intR (w.getD 1 []), t, []⟩
  else some ⟨k, 0, 0, 0, []⟩
def parseP (s : Bs) : Option Cm := if s ≠ [] ∧ lineL (guessP s) = s then some (guessP s) else none
def parseR (s : Bs) : Option Cm := match guessR s with
  | some c => if s ≠ [] ∧ lineL c = s then some c else none
  | none => none
def norm (c : Cm) : Cm :=
  if c.k = 0 ∨ c.k = 2 then ⟨c.k, c.h, 0, 0, []⟩
  else if c.k = 1 then ⟨c.k, c.h, 0, c.t, []⟩
  else if c.k = 3 then ⟨c.k, 0, 0, 0, c.l⟩
  else if c.k = 5 ∨ c.k = 6 then ⟨c.k, 0, c.p, c.t, []⟩
  else ⟨c.k, 0, 0, 0, []⟩
theorem lineL_norm (c : Cm) : lineL (norm c) = lineL c := by
  obtain ⟨k, h, p, t, l⟩ := c
  by_cases h0 : k = 0 ∨ k = 2
  · have e : norm ⟨k, h, p, t, l⟩ = ⟨k, h, 0, 0, []⟩ := if_pos h0
    rw [e]; unfold lineL argL; dsimp only; simp only [if_pos h0]
  · by_cases h1 : k = 1
    · have e : norm ⟨k, h, p, t, l⟩ = ⟨k, h, 0, t, []⟩ := by unfold norm; rw [if_neg h0, if_pos h1]
      rw [e]; unfold lineL argL; dsimp only; simp only [if_neg h0, if_pos h1]
    · by_cases h3 : k = 3
      · have e : norm ⟨k, h, p, t, l⟩ = ⟨k, 0, 0, 0, l⟩ := by unfold norm; rw [if_neg h0, if_neg h1, if_pos h3]
        rw [e]; unfold lineL argL; dsimp only; simp only [if_neg h0, if_neg h1, if_pos h3]
      · by_cases h5 : k = 5 ∨ k = 6
        · have e : norm ⟨k, h, p, t, l⟩ = ⟨k, 0, p, t, []⟩ := by unfold norm; rw [if_neg h0, if_neg h1, if_neg h3, if_pos h5]
          rw [e]; unfold lineL argL; dsimp only; simp only [if_neg h0, if_neg h1, if_neg h3, if_pos h5]
        · have e : norm ⟨k, h, p, t, l⟩ = ⟨k, 0, 0, 0, []⟩ := by unfold norm; rw [if_neg h0, if_neg h1, if_neg h3, if_neg h5]
          rw [e]; unfold lineL argL; dsimp only; simp only [if_neg h0, if_neg h1, if_neg h3, if_neg h5]
theorem norm_P (s : Bs) : norm (guessP s) = guessP s := by
  unfold guessP
  dsimp only
  generalize kindOf _ = k
  by_cases h0 : k = 0 ∨ k = 2
  · simp only [if_pos h0, norm]
  · simp only [if_neg h0]
    by_cases h1 : k = 1
    · simp [h1, norm]
    · simp only [if_neg h1]
      by_cases h3 : k = 3
      · simp [h3, norm]
      · simp only [if_neg h3]
        by_cases h5 : k = 5 ∨ k = 6
        · simp only [if_pos h5, norm, if_neg h0, if_neg h1, if_neg h3]
        · simp only [if_neg h5, norm, if_neg h0, if_neg h1, if_neg h3]
theorem norm_R {s : Bs} {c : Cm} (h : guessR s = some c) : norm c = c := by
  unfold guessR at h
  dsimp only at h
  generalize kindOf _ = k at h
  by_cases h0 : k = 0 ∨ k = 2
  · rw [if_pos h0] at h
    cases h
    simp only [norm, if_pos h0]
  · rw [if_neg h0] at h
    by_cases h1 : k = 1
    · rw [if_pos h1] at h
      obtain ⟨t, _, rfl⟩ := Option.map_eq_some_iff.1 h
      simp [h1, norm]
    · rw [if_neg h1] at h
      by_cases h3 : k = 3
      · rw [if_pos h3] at h
        obtain ⟨t, _, rfl⟩ := Option.map_eq_some_iff.1 h
        simp [h3, norm]
      · rw [if_neg h3] at h
        by_cases h5 : k = 5 ∨ k = 6
        · rw [if_pos h5] at h
          obtain ⟨t, _, rfl⟩ := Option.map_eq_some_iff.1 h
          simp only [norm, if_neg h0, if_neg h1, if_neg h3, if_pos h5]
        · rw [if_neg h5] at h
          cases h
          simp only [norm, if_neg h0, if_neg h1, if_neg h3, if_neg h5]
theorem word_kind {k : Int} (h0 : 0 ≤ k) (h1 : k ≤ 7) : (32 : UInt8) ∉ wdL k ∧ kindOf (wdL k) = k := by
  obtain rfl | rfl | rfl | rfl | rfl | rfl | rfl | rfl : k = 0 ∨ k = 1 ∨ k = 2 ∨ k = 3 ∨ k = 4 ∨ k = 5 ∨ k = 6 ∨ k = 7 := by omega
  all_goals decide
theorem chPV_chL {x : Batch.Ch} (hx : FitC x) (ht : Stamp.U x.t) {f : Bs → Int} (hf : ∀ n : Int, -10000000 < n → n < 10000000 → f (Lib.itoa n) = n) : chPV f (chL x) = x := by
  unfold chPV chL
  rw [cut_some (itoa_clean _).2.2]
  dsimp only
  rw [cut_some (timeL_clean _).2.2]
  dsimp only
  obtain ⟨p, t, d⟩ := x
  unfold FitC FitN at hx
  dsimp only at hx ht ⊢
  rw [hf p (by omega) (by omega), hf d (by omega) (by omega), timeV_time ht]
theorem chL_clean (x : Batch.Ch) : (44 : UInt8) ∉ chL x ∧ (32 : UInt8) ∉ chL x := by
  have a := itoa_clean x.p
  have b := timeL_clean x.t
  have c := itoa_clean x.d
  unfold Clean at a b c
  unfold chL
  simp only [List.mem_append, List.mem_cons]
  constructor <;> rintro (h | h | h | h | h) <;> first | exact absurd h (by decide) | (simp_all)
theorem unL_chL : ∀ (l : List Batch.Ch), (∀ x ∈ l, FitC x ∧ Stamp.U x.t) → unL (l.map chL) = some l
  | [], _ => rfl
  | x :: r, h => by
    obtain ⟨hx, ht⟩ := h x (List.mem_cons_self ..)
    rw [List.map_cons]
    unfold unL
    have e : splR 47 (chL x) = [Lib.itoa x.p, timeL x.t, Lib.itoa x.d] := by
      unfold chL
      rw [splR_two (itoa_clean _).2.2, splR_two (timeL_clean _).2.2, splR_one (itoa_clean _).2.2]
    rw [e]
    dsimp only
    rw [parL_time ht]
    dsimp only
    rw [unL_chL r (fun y hy => h y (List.mem_cons_of_mem _ hy))]
    unfold FitC FitN at hx
    rw [intR_itoa (by omega) (by omega), intR_itoa (by omega) (by omega)]
    unfold Stamp.U at ht
    have e : ((x.t.toNat : Nat) : Int) = x.t := by omega
    rw [e]
    rfl
theorem join_mem {c b : UInt8} : ∀ (xs : List Bs), b ∈ Lib.join xs [c] → b = c ∨ ∃ x ∈ xs, b ∈ x
  | [], h => by simp [Lib.join] at h
  | [x], h => by rw [Lib.join_one] at h; exact .inr ⟨x, by simp, h⟩
  | x :: y :: r, h => by
    rw [join_two] at h
    rcases List.mem_append.1 h with h | h
    · exact .inr ⟨x, by simp, h⟩
    · rcases List.mem_cons.1 h with h | h
      · exact .inl h
      · rcases join_mem (y :: r) h with h | ⟨z, hz, h⟩
        · exact .inl h
        · exact .inr ⟨z, List.mem_cons_of_mem _ hz, h⟩
theorem chsL_space (l : List Batch.Ch) : (32 : UInt8) ∉ chsL l := by
  unfold chsL
  split
  · simp
  · intro h
    rcases join_mem _ h with h | ⟨x, hx, h⟩
    · exact absurd h (by decide)
    · obtain ⟨y, _, rfl⟩ := List.mem_map.1 hx
      exact (chL_clean y).2 h
theorem argL_space (c : Cm) (h : c.k = 0 ∨ c.k = 2 ∨ c.k = 3) : (32 : UInt8) ∉ argL c := by
  unfold argL
  split
  · split
    · exact (itoa_clean _).1
    · simp
  · rename_i h0
    rw [if_neg (by omega), if_pos (by omega)]
    exact chsL_space _
theorem guess_line {c : Cm} (ht : Stamp.U c.t) (hl : ∀ x ∈ c.l, Stamp.U x.t) (h : lineL c ≠ []) : guessP (lineL c) = norm c ∧ guessR (lineL c) = some (norm c) := by
  have hk : 0 ≤ c.k ∧ c.k ≤ 7 := by
    refine Classical.byContradiction fun hn => h ?_
    have e : argL c = [] := by
      unfold argL
      rw [if_neg (by omega), if_neg (by omega), if_neg (by omega), if_neg (by omega)]
    unfold lineL
    rw [if_neg (by omega), if_pos e]
  obtain ⟨hw, hkk⟩ := word_kind hk.1 hk.2
  by_cases h4 : c.k = 4 ∨ c.k = 7
  · have e : lineL c = wdL c.k := if_pos h4
    have e2 : norm c = ⟨c.k, 0, 0, 0, []⟩ := by
      unfold norm
      rw [if_neg (by omega), if_neg (by omega), if_neg (by omega), if_neg (by omega)]
    rw [e, e2]
    unfold guessP guessR
    rw [cut_none hw, splR_one hw]
    simp only [List.cons_append, List.nil_append, List.getD_cons_zero]
    rw [hkk]
    constructor <;> rw [if_neg (by omega), if_neg (by omega), if_neg (by omega), if_neg (by omega)]
  · have ha : argL c ≠ [] := fun e => h (by unfold lineL; rw [if_neg h4, if_pos e])
    have e : lineL c = wdL c.k ++ 32 :: argL c := by unfold lineL; rw [if_neg h4, if_neg ha]
    rw [e]
    unfold guessP guessR
    rw [cut_some hw, splR_two hw]
    simp only [List.cons_append, List.nil_append, List.getD_cons_zero, List.getD_cons_succ]
    rw [hkk]
    by_cases h0 : c.k = 0 ∨ c.k = 2
    · have e1 : norm c = ⟨c.k, c.h, 0, 0, []⟩ := by unfold norm; rw [if_pos h0]
      have hf : FitN c.h := Classical.byContradiction fun hn => ha (by unfold argL; rw [if_pos h0, if_neg hn])
      have e2 : argL c = Lib.itoa c.h := by unfold argL; rw [if_pos h0, if_pos hf]
      unfold FitN at hf
      rw [if_pos h0, if_pos h0, e1, e2, splR_one (itoa_clean _).1, atoiV_itoa (by omega) (by omega)]
      simp only [List.cons_append, List.nil_append, List.getD_cons_zero, List.getD_cons_succ]
      rw [intR_itoa (by omega) (by omega)]
      exact ⟨trivial, rfl⟩
    · rw [if_neg h0, if_neg h0]
      by_cases h1 : c.k = 1
      · have e1 : norm c = ⟨c.k, c.h, 0, c.t, []⟩ := by unfold norm; rw [if_neg h0, if_pos h1]
        have hf : FitN c.h := Classical.byContradiction fun hn => ha (by unfold argL; rw [if_neg h0, if_pos h1, if_neg hn])
        have e2 : argL c = Lib.itoa c.h ++ 32 :: timeL c.t := by unfold argL; rw [if_neg h0, if_pos h1, if_pos hf]
        unfold FitN at hf
        rw [if_pos h1, if_pos h1, e1, e2, splR_two (itoa_clean _).1, splR_one (timeL_clean _).1, cut_some (itoa_clean _).1]
        simp only [List.cons_append, List.nil_append, List.getD_cons_zero, List.getD_cons_succ]
        rw [atoiV_itoa (by omega) (by omega), intR_itoa (by omega) (by omega), timeV_time ht, parL_time ht]
        unfold Stamp.U at ht
        refine ⟨rfl, ?_⟩
        rw [Option.map_some]
        have : ((c.t.toNat : Nat) : Int) = c.t := by omega
        rw [this]
      · rw [if_neg h1, if_neg h1]
        by_cases h3 : c.k = 3
        · have e1 : norm c = ⟨c.k, 0, 0, 0, c.l⟩ := by unfold norm; rw [if_neg h0, if_neg h1, if_pos h3]
          have e2 : argL c = chsL c.l := by unfold argL; rw [if_neg h0, if_neg h1, if_pos h3]
          rw [e2] at ha
          have hc : ¬ (c.l = [] ∨ 16 < c.l.length ∨ ¬ ∀ x ∈ c.l, FitC x) := fun hn => ha (by unfold chsL; rw [if_pos hn])
          have e3 : chsL c.l = Lib.join (c.l.map chL) [44] := if_neg hc
          have hc1 : c.l ≠ [] := fun e => hc (.inl e)
          have hc2 : c.l.length ≤ 16 := Classical.byContradiction fun e => hc (.inr (.inl (by omega)))
          have hc3 : ∀ x ∈ c.l, FitC x := Classical.byContradiction fun e => hc (.inr (.inr e))
          have hm : c.l.map chL ≠ [] := by simpa using hc1
          have hcl : ∀ x ∈ c.l.map chL, (44 : UInt8) ∉ x := fun x hx => by obtain ⟨y, _, rfl⟩ := List.mem_map.1 hx; exact (chL_clean y).1
          have hsp := chsL_space c.l
          rw [if_pos h3, if_pos h3, e1, e2, splR_one hsp]
          simp only [List.cons_append, List.nil_append, List.getD_cons_zero, List.getD_cons_succ]
          rw [e3]
          have hlen := join_len (c := 44) (c.l.map chL)
          rw [List.length_map] at hlen
          rw [splitK_join _ _ hm hcl (by rw [List.length_map]; omega), splR_join _ hm hcl, unL_chL _ (fun x hx => ⟨hc3 x hx, hl x hx⟩), List.map_map]
          refine ⟨?_, rfl⟩
          congr 1
          conv => rhs; rw [← List.map_id c.l]
          exact List.map_congr_left fun x hx => chPV_chL (hc3 x hx) (hl x hx) fun n a b => atoiV_itoa (by omega) (by omega)
        · have h5 : c.k = 5 ∨ c.k = 6 := by omega
          have e1 : norm c = ⟨c.k, 0, c.p, c.t, []⟩ := by unfold norm; rw [if_neg h0, if_neg h1, if_neg h3, if_pos h5]
          have hf : FitN c.p := Classical.byContradiction fun hn => ha (by unfold argL; rw [if_neg h0, if_neg h1, if_neg h3, if_pos h5, if_neg hn])
          have e2 : argL c = Lib.itoa c.p ++ 32 :: timeL c.t := by unfold argL; rw [if_neg h0, if_neg h1, if_neg h3, if_pos h5, if_pos hf]
          unfold FitN at hf
          rw [if_neg h3, if_neg h3, if_pos h5, if_pos h5, e1, e2, splR_two (itoa_clean _).1, splR_one (timeL_clean _).1, cut_some (itoa_clean _).1]
          simp only [List.cons_append, List.nil_append, List.getD_cons_zero, List.getD_cons_succ]
          rw [atoiV_itoa (by omega) (by omega), intR_itoa (by omega) (by omega), timeV_time ht, parL_time ht]
          unfold Stamp.U at ht
          refine ⟨rfl, ?_⟩
          rw [Option.map_some]
          have : ((c.t.toNat : Nat) : Int) = c.t := by omega
          rw [this]
theorem timeV_U (l : Bs) : Stamp.U (timeV l) := by
  unfold timeV
  cases h : parL l with
  | none => unfold Stamp.U; simp
  | some u => exact parL_U h
theorem guessP_U (s : Bs) : Stamp.U (guessP s).t ∧ ∀ x ∈ (guessP s).l, Stamp.U x.t := by
  have z : Stamp.U 0 := by unfold Stamp.U; omega
  unfold guessP
  dsimp only
  generalize kindOf _ = k
  split
  · exact ⟨z, by simp⟩
  · split
    · exact ⟨timeV_U _, by simp⟩
    · split
      · refine ⟨z, fun x hx => ?_⟩
        obtain ⟨y, _, rfl⟩ := List.mem_map.1 hx
        exact timeV_U _
      · split
        · exact ⟨timeV_U _, by simp⟩
        · exact ⟨z, by simp⟩
theorem unL_U : ∀ {l : List Bs} {r : List Batch.Ch}, unL l = some r → ∀ x ∈ r, Stamp.U x.t
  | [], r, h => by cases h; simp
  | q :: l, r, h => by
    unfold unL at h
    split at h
    · split at h
      · rename_i t ht
        obtain ⟨r', h1, rfl⟩ := Option.map_eq_some_iff.1 h
        intro x hx
        rcases List.mem_cons.1 hx with rfl | hx
        · exact parL_U ht
        · exact unL_U h1 x hx
      · cases h
    · cases h
theorem guessR_U {s : Bs} {c : Cm} (h : guessR s = some c) : Stamp.U c.t ∧ ∀ x ∈ c.l, Stamp.U x.t := by
  have z : Stamp.U 0 := by unfold Stamp.U; omega
  unfold guessR at h
  dsimp only at h
  generalize kindOf _ = k at h
  split at h
  · cases h; exact ⟨z, by simp⟩
  · split at h
    · obtain ⟨t, ht, rfl⟩ := Option.map_eq_some_iff.1 h
      exact ⟨parL_U ht, by simp⟩
    · split at h
      · obtain ⟨t, ht, rfl⟩ := Option.map_eq_some_iff.1 h
        exact ⟨z, unL_U ht⟩
      · split at h
        · obtain ⟨t, ht, rfl⟩ := Option.map_eq_some_iff.1 h
          exact ⟨parL_U ht, by simp⟩
        · cases h; exact ⟨z, by simp⟩
/-- Both make the same of any text. -/
theorem parse_same (s : Bs) : parseR s = parseP s := by
  by_cases hP : s ≠ [] ∧ lineL (guessP s) = s
  · obtain ⟨h1, h2⟩ := hP
    obtain ⟨u, v⟩ := guessP_U s
    have hg := guess_line u v (by rw [h2]; exact h1)
    rw [h2, norm_P] at hg
    unfold parseR parseP
    rw [hg.2]
  · have e : parseP s = none := if_neg hP
    rw [e]
    unfold parseR
    cases hR : guessR s with
    | none => rfl
    | some c =>
      dsimp only
      rw [if_neg]
      rintro ⟨h1, h2⟩
      obtain ⟨u, v⟩ := guessR_U hR
      have hg := guess_line u v (by rw [h2]; exact h1)
      rw [h2, norm_R hR] at hg
      exact hP ⟨h1, by rw [hg.1]; exact h2⟩
/-- A line that there is tells whose it is. -/
theorem parse_line {c : Cm} (ht : Stamp.U c.t) (hl : ∀ x ∈ c.l, Stamp.U x.t) (h : lineL c ≠ []) : parseP (lineL c) = some (norm c) := by
  have hg := (guess_line ht hl h).1
  unfold parseP
  rw [hg, if_pos ⟨h, lineL_norm c⟩]
theorem parse_empty : parseP [] = none := if_neg (by simp)
theorem parse_some {s : Bs} {c : Cm} (h : parseP s = some c) : s ≠ [] ∧ lineL c = s := by
  unfold parseP at h
  split at h
  · rename_i h'; cases h; exact h'
  · cases h
/-! ## Graphs -/
structure Gm where
  n : Int
  E : List Gr.Ed
  I : List Int
structure GLim (g : Gm) : Prop where
  n : 0 ≤ g.n ∧ g.n ≤ 64
  e : ∀ x ∈ g.E, (0 ≤ x.f ∧ x.f ≤ 64) ∧ (0 ≤ x.t ∧ x.t ≤ 64) ∧ Stamp.U x.a
  el : g.E.length ≤ 256
  i : ∀ x ∈ g.I, 0 ≤ x ∧ x ≤ 64
  i0 : g.I ≠ []
  il : g.I.length ≤ 8
def edL (x : Gr.Ed) : Bs := Lib.itoa x.f ++ 47 :: (Lib.itoa x.t ++ 47 :: timeL x.a)
def edsL (E : List Gr.Ed) : Bs := if E = [] then [45] else Lib.join (E.map edL) [44]
def insL (I : List Int) : Bs := Lib.join (I.map Lib.itoa) [44]
def graphT (g : Gm) : Bs := Lib.itoa g.n ++ 32 :: (edsL g.E ++ 32 :: insL g.I)
def edV (f : Bs → Int) (part : Bs) : Gr.Ed :=
  let x := Lib.cut part [47]
  let y := Lib.cut x.2.1 [47]
  ⟨f x.1, f y.1, timeV y.2.1⟩
def guessGP (s : Bs) : Gm :=
  let x := Lib.cut s [32]
  let y := Lib.cut x.2.1 [32]
  ⟨atoiV x.1, if y.1 = [45] then [] else (Lib.splitK [44] 0 (min 257 (y.1.length + 1) - 1) y.1).map (edV atoiV), (Lib.splitK [44] 0 (min 9 (y.2.1.length + 1) - 1) y.2.1).map atoiV⟩
def unE : List Bs → Option (List Gr.Ed)
  | [] => some []
  | q :: r => match splR 47 q with
    | [a, b, c] => match parL c with
      | some t => (unE r).map fun l => ⟨intR a, intR b, t⟩ :: l
      | none => none
    | _ => none
def guessGR (s : Bs) : Option Gm := match splR 32 s with
  | [a, b, c] => (if b = [45] then some [] else unE (splR 44 b)).map fun E => ⟨intR a, E, (splR 44 c).map intR⟩
  | _ => none
theorem edL_clean (x : Gr.Ed) : (44 : UInt8) ∉ edL x ∧ (32 : UInt8) ∉ edL x := by
  have a := itoa_clean x.f
  have b := timeL_clean x.a
  have c := itoa_clean x.t
  unfold Clean at a b c
  unfold edL
  simp only [List.mem_append, List.mem_cons]
  constructor <;> rintro (h | h | h | h | h) <;> first | exact absurd h (by decide) | (simp_all)
theorem edL_slash (x : Gr.Ed) : (47 : UInt8) ∈ edL x := by unfold edL; simp
theorem join_in {c b : UInt8} : ∀ (xs : List Bs) {x : Bs}, x ∈ xs → b ∈ x → b ∈ Lib.join xs [c]
  | [], _, h, _ => by simp at h
  | [y], x, h, hb => by rw [Lib.join_one]; obtain rfl := List.mem_singleton.1 h; exact hb
  | y :: z :: r, x, h, hb => by
    rw [join_two]
    rcases List.mem_cons.1 h with rfl | h
    · exact List.mem_append_left _ hb
    · exact List.mem_append_right _ (List.mem_cons_of_mem _ (join_in (z :: r) h hb))
theorem edsL_minus {E : List Gr.Ed} (h : E ≠ []) : edsL E ≠ [45] := by
  intro e
  unfold edsL at e
  rw [if_neg h] at e
  obtain ⟨x, r, rfl⟩ := List.exists_cons_of_ne_nil h
  have := join_in (c := 44) (b := 47) ((x :: r).map edL) (x := edL x) (by simp) (edL_slash x)
  rw [e] at this
  revert this
  decide
theorem edsL_space (E : List Gr.Ed) : (32 : UInt8) ∉ edsL E := by
  unfold edsL
  split
  · decide
  · intro h
    rcases join_mem _ h with h | ⟨x, hx, h⟩
    · exact absurd h (by decide)
    · obtain ⟨y, _, rfl⟩ := List.mem_map.1 hx
      exact (edL_clean y).2 h
theorem insL_space (I : List Int) : (32 : UInt8) ∉ insL I := by
  unfold insL
  intro h
  rcases join_mem _ h with h | ⟨x, hx, h⟩
  · exact absurd h (by decide)
  · obtain ⟨y, _, rfl⟩ := List.mem_map.1 hx
    exact (itoa_clean y).1 h
theorem edV_edL {x : Gr.Ed} (h : (0 ≤ x.f ∧ x.f ≤ 64) ∧ (0 ≤ x.t ∧ x.t ≤ 64) ∧ Stamp.U x.a) : edV atoiV (edL x) = x := by
  unfold edV edL
  rw [cut_some (itoa_clean _).2.2]
  dsimp only
  rw [cut_some (itoa_clean _).2.2]
  dsimp only
  obtain ⟨f, t, a⟩ := x
  dsimp only at h ⊢
  rw [atoiV_itoa (by omega) (by omega), atoiV_itoa (by omega) (by omega), timeV_time h.2.2]
theorem unE_edL : ∀ (l : List Gr.Ed), (∀ x ∈ l, (0 ≤ x.f ∧ x.f ≤ 64) ∧ (0 ≤ x.t ∧ x.t ≤ 64) ∧ Stamp.U x.a) → unE (l.map edL) = some l
  | [], _ => rfl
  | x :: r, h => by
    obtain ⟨h1, h2, ht⟩ := h x (List.mem_cons_self ..)
    rw [List.map_cons]
    unfold unE
    have e : splR 47 (edL x) = [Lib.itoa x.f, Lib.itoa x.t, timeL x.a] := by
      unfold edL
      rw [splR_two (itoa_clean _).2.2, splR_two (itoa_clean _).2.2, splR_one (timeL_clean _).2.2]
    rw [e]
    dsimp only
    rw [parL_time ht]
    dsimp only
    rw [unE_edL r (fun y hy => h y (List.mem_cons_of_mem _ hy)), intR_itoa (by omega) (by omega), intR_itoa (by omega) (by omega)]
    unfold Stamp.U at ht
    have e : ((x.a.toNat : Nat) : Int) = x.a := by omega
    rw [e]
    rfl
theorem guess_graph {g : Gm} (h : GLim g) : guessGP (graphT g) = g ∧ guessGR (graphT g) = some g := by
  obtain ⟨hn, he, hel, hi, hi0, hil⟩ := h
  obtain ⟨n, E, I⟩ := g
  dsimp only at hn he hel hi hi0 hil
  have c1 : (32 : UInt8) ∉ Lib.itoa n := (itoa_clean _).1
  have c2 := edsL_space E
  have c3 := insL_space I
  have hm : I.map Lib.itoa ≠ [] := by simpa using hi0
  have hcl : ∀ x ∈ I.map Lib.itoa, (44 : UInt8) ∉ x := fun x hx => by obtain ⟨y, _, rfl⟩ := List.mem_map.1 hx; exact (itoa_clean y).2.1
  have hlen := join_len (c := 44) (I.map Lib.itoa)
  rw [List.length_map] at hlen
  have eI : (Lib.splitK [44] 0 (min 9 ((insL I).length + 1) - 1) (insL I)).map atoiV = I := by
    unfold insL
    rw [splitK_join _ _ hm hcl (by rw [List.length_map]; omega), List.map_map]
    conv => rhs; rw [← List.map_id I]
    exact List.map_congr_left fun x hx => by have := hi x hx; exact atoiV_itoa (by omega) (by omega)
  have eI2 : (splR 44 (insL I)).map intR = I := by
    unfold insL
    rw [splR_join _ hm hcl, List.map_map]
    conv => rhs; rw [← List.map_id I]
    exact List.map_congr_left fun x hx => by have := hi x hx; exact intR_itoa (by omega) (by omega)
  have eE : (if edsL E = [45] then [] else (Lib.splitK [44] 0 (min 257 ((edsL E).length + 1) - 1) (edsL E)).map (edV atoiV)) = E ∧ (if edsL E = [45] then some [] else unE (splR 44 (edsL E))) = some E := by
    by_cases h0 : E = []
    · subst h0
      exact ⟨rfl, rfl⟩
    · rw [if_neg (edsL_minus h0), if_neg (edsL_minus h0)]
      have e3 : edsL E = Lib.join (E.map edL) [44] := if_neg h0
      have hmE : E.map edL ≠ [] := by simpa using h0
      have hcE : ∀ x ∈ E.map edL, (44 : UInt8) ∉ x := fun x hx => by obtain ⟨y, _, rfl⟩ := List.mem_map.1 hx; exact (edL_clean y).1
      have hlE := join_len (c := 44) (E.map edL)
      rw [List.length_map] at hlE
      rw [e3, splitK_join _ _ hmE hcE (by rw [List.length_map]; omega), splR_join _ hmE hcE, unE_edL _ he, List.map_map]
      refine ⟨?_, rfl⟩
      conv => rhs; rw [← List.map_id E]
      exact List.map_congr_left fun x hx => edV_edL (he x hx)
  unfold guessGP guessGR graphT
  dsimp only
  rw [cut_some c1]
  dsimp only
  rw [cut_some c2, splR_two c1, splR_two c2, splR_one c3]
  dsimp only
  rw [eE.1, eE.2, eI, eI2, atoiV_itoa (by omega) (by omega), intR_itoa (by omega) (by omega)]
  exact ⟨rfl, rfl⟩
theorem unE_U : ∀ {l : List Bs} {r : List Gr.Ed}, unE l = some r → ∀ x ∈ r, Stamp.U x.a
  | [], r, h => by cases h; simp
  | q :: l, r, h => by
    unfold unE at h
    split at h
    · split at h
      · rename_i t ht
        obtain ⟨r', h1, rfl⟩ := Option.map_eq_some_iff.1 h
        intro x hx
        rcases List.mem_cons.1 hx with rfl | hx
        · exact parL_U ht
        · exact unE_U h1 x hx
      · cases h
    · cases h
theorem guessGR_U {s : Bs} {g : Gm} (h : guessGR s = some g) : ∀ x ∈ g.E, Stamp.U x.a := by
  unfold guessGR at h
  split at h
  · obtain ⟨E, h1, rfl⟩ := Option.map_eq_some_iff.1 h
    split at h1
    · cases h1; simp
    · exact unE_U h1
  · cases h
theorem guessGP_U (s : Bs) : ∀ x ∈ (guessGP s).E, Stamp.U x.a := by
  unfold guessGP
  dsimp only
  split
  · simp
  · intro x hx
    obtain ⟨y, _, rfl⟩ := List.mem_map.1 hx
    exact timeV_U _
section
variable (ok : Gm → Bool)
def graphL (g : Gm) : Bs := if ok g = true then graphT g else []
def parseGP (s : Bs) : Option Gm := if s ≠ [] ∧ graphL ok (guessGP s) = s then some (guessGP s) else none
def parseGR (s : Bs) : Option Gm := match guessGR s with
  | some g => if s ≠ [] ∧ graphL ok g = s then some g else none
  | none => none
def OkP : Prop := ∀ g, ok g = true → (∀ e ∈ g.E, Stamp.U e.a) → GLim g
variable {ok : Gm → Bool}
theorem guess_graphL (hok : OkP ok) {g : Gm} (hu : ∀ x ∈ g.E, Stamp.U x.a) (h : graphL ok g ≠ []) : guessGP (graphL ok g) = g ∧ guessGR (graphL ok g) = some g := by
  unfold graphL at h ⊢
  by_cases ho : ok g = true
  · rw [if_pos ho] at h ⊢
    exact guess_graph (hok g ho hu)
  · rw [if_neg ho] at h
    exact absurd rfl h
theorem parseG_same (hok : OkP ok) (s : Bs) : parseGR ok s = parseGP ok s := by
  by_cases hP : s ≠ [] ∧ graphL ok (guessGP s) = s
  · obtain ⟨h1, h2⟩ := hP
    have hg := guess_graphL hok (guessGP_U s) (by rw [h2]; exact h1)
    rw [h2] at hg
    unfold parseGR parseGP
    rw [hg.2]
  · have e : parseGP ok s = none := if_neg hP
    rw [e]
    unfold parseGR
    cases hR : guessGR s with
    | none => rfl
    | some g =>
      dsimp only
      rw [if_neg]
      rintro ⟨h1, h2⟩
      have hg := guess_graphL hok (guessGR_U hR) (by rw [h2]; exact h1)
      rw [h2] at hg
      exact hP ⟨h1, by rw [hg.1]; exact h2⟩
theorem parseG_text (hok : OkP ok) {g : Gm} (hu : ∀ x ∈ g.E, Stamp.U x.a) (h : graphL ok g ≠ []) : parseGP ok (graphL ok g) = some g := by
  have hg := (guess_graphL hok hu h).1
  unfold parseGP
  rw [hg, if_pos ⟨h, rfl⟩]
end
end Go.Proofs.YtdbaacalfbbdiaaGreatDoor.Sc
