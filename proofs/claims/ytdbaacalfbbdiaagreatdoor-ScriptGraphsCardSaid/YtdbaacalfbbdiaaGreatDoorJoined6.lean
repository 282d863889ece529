/-
  PACKAGE script: Parse. (gen/scparse.py)
  ERRORS AT PLACES: what a chain of them is in memory; the library's errors.Is along such a chain, of whatever length.
-/
import Derived.Test.YtdbaacalfbbdiaaGreatDoorScGuess
import Derived.Test.YtdbaacalfbbdiaaGreatDoorRows
import Derived.WalkKit
import Derived.WalkLawsBesides
import Derived.WalkSpells
import Derived.LaidEql
import Derived.Stop.Asserts
import Derived.RowKitTokens
import Derived.Elder7
import Derived.Lib.Hide
import Derived.Lib.AtoiErrMem
import Derived.WalkSmall
import Derived.Outline
namespace Go.Proofs.YtdbaacalfbbdiaaGreatDoor.Sc
open Go.RowKit
set_option linter.unusedVariables false
set_option linter.unusedSimpArgs false
def c0 : Cm := ⟨0, 0, 0, 0, []⟩
def PaP (w : World) (o : Option Cm) (e : Ending) (w' : World) : Prop := ∃ v, e = .returned (.tuple #[.agg #[.int .i64 (o.getD c0).k, .int .i64 (o.getD c0).h, .int .i64 (o.getD c0).p, .int .u64 (o.getD c0).t, v], .int .i64 (if o.isSome then 0 else 13)]) ∧ Batch.Sl w' v (o.getD c0).l ∧ Below w.heap.size w w'
theorem Sl_set5 {w : World} {v : Value} {l : List Batch.Ch} {b : Nat} (h : Batch.Sl w v l) (hb : ∀ g n k, v = .slice (some g) n k → g.block ≠ b) (u0 u1 u2 u3 u4 : Value) : Batch.Sl (((((w.setCell ⟨b, 0, none⟩ u0).setCell ⟨b, 1, none⟩ u1).setCell ⟨b, 2, none⟩ u2).setCell ⟨b, 3, none⟩ u3).setCell ⟨b, 4, none⟩ u4) v l := by
  obtain ⟨ao, cap, rfl, h1, h2⟩ := h
  refine ⟨ao, cap, rfl, ?_, h2⟩
  rcases h1 with h1 | ⟨g, off, rfl, h1⟩
  · exact .inl h1
  · refine .inr ⟨g, off, rfl, fun i x hx => ?_⟩
    have hne : b ≠ g := fun e => hb _ _ _ rfl e.symm
    have e : ∀ o, (((((w.setCell ⟨b, 0, none⟩ u0).setCell ⟨b, 1, none⟩ u1).setCell ⟨b, 2, none⟩ u2).setCell ⟨b, 3, none⟩ u3).setCell ⟨b, 4, none⟩ u4).cell? ⟨g, o, none⟩ = w.cell? ⟨g, o, none⟩ := fun o =>
      (World.cell?_setCell_far _ _ _ _ hne).trans ((World.cell?_setCell_far _ _ _ _ hne).trans ((World.cell?_setCell_far _ _ _ _ hne).trans ((World.cell?_setCell_far _ _ _ _ hne).trans (World.cell?_setCell_far _ _ _ _ hne))))
    have q := h1 i x hx
    exact ⟨(e _).trans q.1, (e _).trans q.2.1, (e _).trans q.2.2⟩
theorem getD_some (c : Cm) : (some c).getD c0 = c := rfl
theorem getD_none : (none : Option Cm).getD c0 = c0 := rfl
set_option maxRecDepth 1000000 in
set_option maxHeartbeats 16000000 in
theorem scParse_any (s : Bs) (hs : s.length ≤ 10000) {w : World} (hL : SV w) :
    Calls Tryz.prog 6 #[.string (bs s)] w (PaP w (parseP s)) := by
  have HL := Lib.hid hL
  have HG := Lib.hid (fun w' (hb : Below w.heap.size w w') => guessCmd_any s hs (hL.below hb))
  have HU := Lib.hid (guessP_U s)
  have HPP := Lib.hid (show parseP s = if s ≠ [] ∧ lineL (guessP s) = s then some (guessP s) else none from rfl)
  have HLN := Lib.hid (show (guessP s).l.length ≤ 17 by
    unfold guessP
    dsimp only
    split
    · simp
    · split
      · simp
      · split
        · rw [List.length_map]
          have := splitK_count [44] (min 17 ((Lib.cut s [32]).2.1.length + 1) - 1) (Lib.cut s [32]).2.1
          omega
        · split <;> simp)
  generalize guessP s = G at *
  generalize parseP s = O at *
  clear hL hs
  obtain ⟨w1, hw1⟩ : ∃ w1, w1 = w.alloc (.cells #[.int .i64 0, .int .i64 0, .int .i64 0, .int .u64 0, .slice none 0 0] 29) := ⟨_, rfl⟩
  have HZ1 := Lib.hid (show w1.heap[w.heap.size]? = some (.cells #[.int .i64 0, .int .i64 0, .int .i64 0, .int .u64 0, .slice none 0 0] 29 (0, 0)) by rw [hw1]; exact heap_alloc_new w _)
  have HB1 := Lib.hid (show Below w.heap.size w w1 by rw [hw1]; exact (Below.refl _ _).alloc (Nat.le_refl _) _)
  obtain ⟨z, hz⟩ : ∃ z, z = w.heap.size := ⟨_, rfl⟩
  rw [← hz] at HZ1
  have HZZ := Lib.hid hz
  go_enter Tryz.func6, Tryz.ntmps6
  go_upto_region 1 with fail
  rw [← hw1, ← hz]
  clear hw1 hz
  go_wp2_with fail
  go_at_call 24
  refine (HG.out _ HB1.out).mono ?_
  rintro e w2 ⟨v, rfl, hsl, hnw, hb⟩
  obtain ⟨va, vk, rfl, _⟩ := id hsl
  have HB2 := Lib.hid (HB1.out.trans (hb.mono HB1.out.size))
  have HZ2 := Lib.hid ((hb.block z (Array.getElem?_eq_some_iff.1 HZ1.out).1).trans HZ1.out)
  have HS2 := Lib.hid hsl
  clear hsl hb HG
  obtain ⟨k, h, p, t, l⟩ := G
  dsimp only at HS2 HU HLN
  go_upto_region 2 with fail
  obtain ⟨w3, hw3⟩ : ∃ w3, w3 = w2.alloc (.cells #[.int .i64 k, .int .i64 h, .int .i64 p, .int .u64 t, .slice va l.length vk] 29) := ⟨_, rfl⟩
  have hc3 : w3.heap[w2.heap.size]? = some (.cells #[.int .i64 k, .int .i64 h, .int .i64 p, .int .u64 t, .slice va l.length vk] 29 (0, 0)) := by rw [hw3]; exact heap_alloc_new w2 _
  have hb3 : Below w2.heap.size w2 w3 := by rw [hw3]; exact (Below.refl _ _).alloc (Nat.le_refl _) _
  rw [← hw3]
  obtain ⟨cb, hcb⟩ : ∃ c, c = w2.heap.size := ⟨_, rfl⟩
  rw [← hcb] at hc3 ⊢
  have HB3 := Lib.hid (HB2.out.trans (hb3.mono HB2.out.size))
  have HZ3 := Lib.hid ((hb3.block z (Array.getElem?_eq_some_iff.1 HZ2.out).1).trans HZ2.out)
  have HC3 := Lib.hid hc3
  have HS3 := Lib.hid (HS2.out.below hb3)
  have HNW := Lib.hid (show ∀ g n k', (.slice va l.length vk : Value) = .slice (some g) n k' → w1.heap.size ≤ g.block from hnw)
  clear hw3 hb3 hcb hc3 hnw
  have HLI := Lib.hid (scLine_any (k := k) (h := h) (p := p) HS3.out.rd (Nat.le_trans HLN.out (by decide)) HU.out.1 (HL.out.below HB3.out))
  by_cases h0 : s = []
  · have HO := Lib.hid (show O = none by rw [HPP.out]; exact if_neg (fun e => e.1 h0))
    have eE : ((bs s).toList == []) = true := by rw [Lib.toList_data, bs_data, h0]; rfl
    clear h0
    obtain ⟨z0, z1, z2, z3, z4⟩ := cells5 HZ3.out
    have zf0 := free_of HZ3.out 0
    have zf1 := free_of HZ3.out 1
    have zf2 := free_of HZ3.out 2
    have zf3 := free_of HZ3.out 3
    have zf4 := free_of HZ3.out 4
    have HR5 := Lib.hid (cells5 (heap_setCell_same _ z 4 _ _ (.slice none 0 0) (heap_setCell_same _ z 3 _ _ (.int .u64 0) (heap_setCell_same _ z 2 _ _ (.int .i64 0) (heap_setCell_same _ z 1 _ _ (.int .i64 0) (heap_setCell_same _ z 0 _ _ (.int .i64 0) HZ3.out))))))
    go_wp2_with fail
    obtain ⟨r0, r1, r2, r3, r4⟩ := HR5.out
    have e := HO.out
    subst e
    exact bodyPost_ret (v := .tuple #[.agg #[.int .i64 0, .int .i64 0, .int .i64 0, .int .u64 0, .slice none 0 0], .int .i64 13]) (by simp [results, Tryz.results6, go_sem, r0, r1, r2, r3, r4]) rfl ⟨_, rfl, Batch.Sl.nil _, (((((HB3.out).setCell (p := ⟨z, 0, none⟩) (Nat.le_of_eq HZZ.out.symm) _).setCell (p := ⟨z, 1, none⟩) (Nat.le_of_eq HZZ.out.symm) _).setCell (p := ⟨z, 2, none⟩) (Nat.le_of_eq HZZ.out.symm) _).setCell (p := ⟨z, 3, none⟩) (Nat.le_of_eq HZZ.out.symm) _).setCell (p := ⟨z, 4, none⟩) (Nat.le_of_eq HZZ.out.symm) _⟩
  have eE : ((bs s).toList == []) = false := by rw [Lib.toList_data, bs_data, beq_eq_false_iff_ne]; exact h0
  by_cases h1 : lineL ⟨k, h, p, t, l⟩ = s
  · have HO := Lib.hid (show O = some ⟨k, h, p, t, l⟩ by rw [HPP.out]; exact if_pos ⟨h0, h1⟩)
    have eT : ((bs (lineL ⟨k, h, p, t, l⟩)).toList == (bs s).toList) = true := by rw [bs_beq]; exact decide_eq_true h1
    clear h0 h1
    generalize lineL ⟨k, h, p, t, l⟩ = ll at *
    obtain ⟨d0, d1, d2, d3, d4⟩ := cells5 HC3.out
    go_wp2_with fail
    go_at_call 8
    refine HLI.out.mono ?_
    rintro e w4 ⟨rfl, hb⟩
    have HB4 := Lib.hid (HB3.out.trans (hb.mono HB3.out.size))
    have HZ4 := Lib.hid ((hb.block z (Array.getElem?_eq_some_iff.1 HZ3.out).1).trans HZ3.out)
    have HC4 := Lib.hid ((hb.block cb (Array.getElem?_eq_some_iff.1 HC3.out).1).trans HC3.out)
    have HS4 := Lib.hid (HS3.out.below hb)
    clear hb d0 d1 d2 d3 d4
    obtain ⟨d0, d1, d2, d3, d4⟩ := cells5 HC4.out
    obtain ⟨z0, z1, z2, z3, z4⟩ := cells5 HZ4.out
    have zf0 := free_of HZ4.out 0
    have zf1 := free_of HZ4.out 1
    have zf2 := free_of HZ4.out 2
    have zf3 := free_of HZ4.out 3
    have zf4 := free_of HZ4.out 4
    have HR5 := Lib.hid (cells5 (heap_setCell_same _ z 4 _ _ (.slice va l.length vk) (heap_setCell_same _ z 3 _ _ (.int .u64 t) (heap_setCell_same _ z 2 _ _ (.int .i64 p) (heap_setCell_same _ z 1 _ _ (.int .i64 h) (heap_setCell_same _ z 0 _ _ (.int .i64 k) HZ4.out))))))
    go_wp2_with fail
    obtain ⟨r0, r1, r2, r3, r4⟩ := HR5.out
    have e := HO.out
    subst e
    exact bodyPost_ret (v := .tuple #[.agg #[.int .i64 k, .int .i64 h, .int .i64 p, .int .u64 t, .slice va l.length vk], .int .i64 0]) (by simp [results, Tryz.results6, go_sem, r0, r1, r2, r3, r4]) rfl ⟨_, rfl, Sl_set5 HS4.out (fun g n k' e => by have h1 := HNW.out g n k' e; have h2 := (Array.getElem?_eq_some_iff.1 HZ1.out).1; omega) _ _ _ _ _, (((((HB4.out).setCell (p := ⟨z, 0, none⟩) (Nat.le_of_eq HZZ.out.symm) _).setCell (p := ⟨z, 1, none⟩) (Nat.le_of_eq HZZ.out.symm) _).setCell (p := ⟨z, 2, none⟩) (Nat.le_of_eq HZZ.out.symm) _).setCell (p := ⟨z, 3, none⟩) (Nat.le_of_eq HZZ.out.symm) _).setCell (p := ⟨z, 4, none⟩) (Nat.le_of_eq HZZ.out.symm) _⟩
  · have HO := Lib.hid (show O = none by rw [HPP.out]; exact if_neg (fun e => h1 e.2))
    have eT : ((bs (lineL ⟨k, h, p, t, l⟩)).toList == (bs s).toList) = false := by rw [bs_beq]; exact decide_eq_false h1
    clear h0 h1
    generalize lineL ⟨k, h, p, t, l⟩ = ll at *
    obtain ⟨d0, d1, d2, d3, d4⟩ := cells5 HC3.out
    go_wp2_with fail
    go_at_call 8
    refine HLI.out.mono ?_
    rintro e w4 ⟨rfl, hb⟩
    have HB4 := Lib.hid (HB3.out.trans (hb.mono HB3.out.size))
    have HZ4 := Lib.hid ((hb.block z (Array.getElem?_eq_some_iff.1 HZ3.out).1).trans HZ3.out)
    have HC4 := Lib.hid ((hb.block cb (Array.getElem?_eq_some_iff.1 HC3.out).1).trans HC3.out)
    have HS4 := Lib.hid (HS3.out.below hb)
    clear hb d0 d1 d2 d3 d4
    obtain ⟨z0, z1, z2, z3, z4⟩ := cells5 HZ4.out
    have zf0 := free_of HZ4.out 0
    have zf1 := free_of HZ4.out 1
    have zf2 := free_of HZ4.out 2
    have zf3 := free_of HZ4.out 3
    have zf4 := free_of HZ4.out 4
    have HR5 := Lib.hid (cells5 (heap_setCell_same _ z 4 _ _ (.slice none 0 0) (heap_setCell_same _ z 3 _ _ (.int .u64 0) (heap_setCell_same _ z 2 _ _ (.int .i64 0) (heap_setCell_same _ z 1 _ _ (.int .i64 0) (heap_setCell_same _ z 0 _ _ (.int .i64 0) HZ4.out))))))
    go_wp2_with fail
    obtain ⟨r0, r1, r2, r3, r4⟩ := HR5.out
    have e := HO.out
    subst e
    exact bodyPost_ret (v := .tuple #[.agg #[.int .i64 0, .int .i64 0, .int .i64 0, .int .u64 0, .slice none 0 0], .int .i64 13]) (by simp [results, Tryz.results6, go_sem, r0, r1, r2, r3, r4]) rfl ⟨_, rfl, Batch.Sl.nil _, (((((HB4.out).setCell (p := ⟨z, 0, none⟩) (Nat.le_of_eq HZZ.out.symm) _).setCell (p := ⟨z, 1, none⟩) (Nat.le_of_eq HZZ.out.symm) _).setCell (p := ⟨z, 2, none⟩) (Nat.le_of_eq HZZ.out.symm) _).setCell (p := ⟨z, 3, none⟩) (Nat.le_of_eq HZZ.out.symm) _).setCell (p := ⟨z, 4, none⟩) (Nat.le_of_eq HZZ.out.symm) _⟩
end Go.Proofs.YtdbaacalfbbdiaaGreatDoor.Sc
namespace Go.Proofs.YtdbaacalfbbdiaaGreatDoor.Fault
open Go.RowKit Go.Extern.Stop Go.Stop Go.Extern
set_option linter.unusedVariables false

/-! ### '==' between two errors that are numbers of one type (after the given note's text) -/
section
variable {P : Program} (w : World)
theorem run_equalIn_iface_int (d : Nat) {ti tn : TypeId} {ms : Array (String × TypeId)} {i : TypeInfo} {k : IntKind} (a b : Int)
    (hi : P.underlying ti = some (.interface ms)) (hn : P.underlying tn = some (.int k)) (hinfo : P.info? tn = some i) (hcomp : i.comparable = true) :
    (Op.equalIn (d + 2) ti (.iface tn (.int k a)) (.iface tn (.int k b))).run P w = .ok (a == b) w := by
  simp [Op.equalIn, run_underlying hi, run_underlying hn, typeInfo, hinfo, hcomp]
theorem run_eql_iface_int {ti tn : TypeId} {ms : Array (String × TypeId)} {i : TypeInfo} {k : IntKind} (a b : Int)
    (hi : P.underlying ti = some (.interface ms)) (hn : P.underlying tn = some (.int k)) (hinfo : P.info? tn = some i) (hcomp : i.comparable = true) :
    (binOp .eql ti (.iface tn (.int k a)) (.iface tn (.int k b))).run P w = .ok (.bool (a == b)) w := by
  simp only [binOp]
  simp [Op.equal, Op.maxDepth, run_equalIn_iface_int w 9998 a b hi hn hinfo hcomp]
end

/-! ### a chain in memory -/
abbrev Pl := ByteArray × Int
abbrev placedV (blk : Nat) : Value := .iface 129 (.pointer (some ⟨blk, 0, none⟩))
abbrev errnoV (k : Int) : Value := .iface 30 (.int .i64 k)
abbrev plainV (a : Addr) : Value := .iface 199 (.pointer (some a))
def Chain (W : World) : Value → List Pl → Value → Prop
  | v, [], b => v = b
  | v, (s, n) :: r, b => ∃ (blk : Nat) (v' : Value), v = placedV blk ∧ W.cell? ⟨blk, 0, none⟩ = some v' ∧ W.cell? ⟨blk, 1, none⟩ = some (.string s) ∧ W.cell? ⟨blk, 2, none⟩ = some (.int .i64 n) ∧ Chain W v' r b
def IsBase (b : Value) : Prop := (∃ k, b = errnoV k) ∨ ∃ a, b = plainV a
theorem base_ne {b : Value} (h : IsBase b) (blk : Nat) : b ≠ placedV blk := by
  rintro rfl
  rcases h with ⟨k, h⟩ | ⟨a, h⟩
  · simp at h
  · simp at h
theorem Chain.unique {W : World} : ∀ {l l' : List Pl} {v b b' : Value}, IsBase b → IsBase b' → Chain W v l b → Chain W v l' b' → l.length = l'.length
  | [], [], _, _, _, _, _, _, _ => rfl
  | [], (_, _) :: _, v, b, b', hb, hb', h, h' => by
    obtain ⟨blk, v', e, _⟩ := h'
    have h : v = b := h
    exact absurd (h ▸ e) (base_ne hb blk)
  | (_, _) :: _, [], v, b, b', hb, hb', h, h' => by
    obtain ⟨blk, v', e, _⟩ := h
    have h' : v = b' := h'
    exact absurd (h' ▸ e) (base_ne hb' blk)
  | (_, _) :: r, (_, _) :: r', v, b, b', hb, hb', h, h' => by
    obtain ⟨blk, v1, e, hc, _, _, hr⟩ := h
    obtain ⟨blk', v1', e', hc', _, _, hr'⟩ := h'
    rw [e] at e'
    have hblk : blk = blk' := by simpa using e'
    subst hblk
    rw [hc] at hc'
    obtain rfl := Option.some.inj hc'
    rw [List.length_cons, List.length_cons, Chain.unique hb hb' hr hr']
open Classical in
/-- How many links are left: the loops' measure. -/
noncomputable def chainLen (W : World) (v : Value) : Nat := if h : ∃ (n : Nat) (l : List Pl) (b : Value), l.length = n ∧ IsBase b ∧ Chain W v l b then h.choose else 0
theorem chainLen_eq {W : World} {v b : Value} {l : List Pl} (hb : IsBase b) (h : Chain W v l b) : chainLen W v = l.length := by
  unfold chainLen
  have hex : ∃ (n : Nat) (l : List Pl) (b : Value), l.length = n ∧ IsBase b ∧ Chain W v l b := ⟨_, l, b, rfl, hb, h⟩
  rw [dif_pos hex]
  obtain ⟨l', b', e, hb', h'⟩ := hex.choose_spec
  rw [← e]
  exact Chain.unique hb' hb h' h
theorem Chain.below {W W' : World} (hw : Below W.heap.size W W') : ∀ {l : List Pl} {v b : Value}, Chain W v l b → Chain W' v l b
  | [], _, _, h => h
  | (s, n) :: r, v, b, ⟨blk, v', e, h0, h1, h2, hr⟩ => by
    have hlt := Lib.lt_of_cell h0
    exact ⟨blk, v', e, (hw.cell (p := ⟨blk, 0, none⟩) hlt).trans h0, (hw.cell (p := ⟨blk, 1, none⟩) hlt).trans h1, (hw.cell (p := ⟨blk, 2, none⟩) hlt).trans h2, Chain.below hw hr⟩

/-! ### closed facts on the method sets -/
/-- What the model's entry for the method Comparable asks and answers. -/
def cmpFn : TypeId → Sem Value := fun t => do Extern.Rtype.noPackHeld "Comparable" t; pure (.bool (← typeInfo t).comparable)
theorem compE (w : World) : ((Extern.ReflectliteType.method cmpFn) #[.agg #[.pointer (some ⟨9, 30, none⟩)]]).run Tryz.prog w = .ok (.bool true) w := by kernel_rfl
theorem compS (w : World) : ((Extern.ReflectliteType.method cmpFn) #[.agg #[.pointer (some ⟨9, 199, none⟩)]]).run Tryz.prog w = .ok (.bool true) w := by kernel_rfl
theorem infoE : (Tryz.prog.info? 30).map (·.comparable) = some true := by kernel_rfl
theorem infoS : (Tryz.prog.info? 199).map (·.comparable) = some true := by kernel_rfl
theorem sizeS : (Tryz.prog.info? 201).map (·.size) = some 1 := by kernel_rfl

/-! ### errors.Is -/
theorem ne_nil {W : World} {v b : Value} {l : List Pl} (hb : IsBase b) (h : Chain W v l b) : ∃ u x, v = .iface u x := by
  cases l with
  | nil => rcases hb with ⟨k, rfl⟩ | ⟨a, rfl⟩ <;> exact ⟨_, _, h⟩
  | cons y r => obtain ⟨_, _, e, _⟩ := h; exact ⟨_, _, e⟩

end Go.Proofs.YtdbaacalfbbdiaaGreatDoor.Fault
