/-
  PACKAGE fault's Text, walked: what it answers of nil, and of a chain of at most twelve short places.
-/
import Derived.Test.YtdllgeanmlmmfaaGreatDoorJoined24
namespace Go.Proofs.YtdllgeanmlmmfaaGreatDoor.Fault
open Go.RowKit
set_option linter.unusedVariables false
set_option linter.unusedSimpArgs false

/-- The end of Text: the kind's word behind the places. -/
theorem plCells_at (l : List Pl) (i : Nat) (s : ByteArray) (n : Int) (h : l[i]? = some (s, n)) : (plCells l)[i * 2]? = some (.string s) ∧ (plCells l)[i * 2 + 1]? = some (.int .i64 n) := by
  induction l generalizing i with
  | nil => simp at h
  | cons x r ih =>
    cases i with
    | zero => simp at h; subst h; exact ⟨rfl, rfl⟩
    | succ i =>
      have h' : r[i]? = some (s, n) := by simpa using h
      obtain ⟨a, b⟩ := ih i h'
      have e : plCells (x :: r) = .string x.1 :: .int .i64 x.2 :: plCells r := rfl
      rw [e, show (i + 1) * 2 = i * 2 + 2 by omega, show i * 2 + 2 + 1 = (i * 2 + 1) + 2 by omega]
      exact ⟨by simpa using a, by simpa using b⟩

theorem keep_pl {b k : Nat} {w w' : World} {cs : Array Value} (h : Bld.Keeps b w w') (hk : k ≠ b) (hw : w.heap[k]? = some (.cells cs 114 (0, 0))) : w'.heap[k]? = some (.cells cs 114 (0, 0)) :=
  h.2 k _ hk hw (fun cur fz e => by injection e with _ h2 _; revert h2; decide)
theorem heap_below {k : Nat} {w w' : World} {o : Obj} (h : Below w.heap.size w w') (hw : w.heap[k]? = some o) : w'.heap[k]? = some o := by
  have hk : k < w.heap.size := by
    rcases Nat.lt_or_ge k w.heap.size with h1 | h1
    · exact h1
    · rw [Array.getElem?_eq_none h1] at hw; cases hw
  rw [h.block k hk]; exact hw
theorem cur_at {cur : Array Value} {l : List Pl} (h : cur.toList.take (l.length * 2) = plCells l) {j : Nat} {v : Value} (hv : (plCells l)[j]? = some v) (hj : j < l.length * 2) : cur[j]? = some v := by
  rw [← h, List.getElem?_take_of_lt hj] at hv
  rw [← Array.getElem?_toList]; exact hv

set_option maxRecDepth 1000000 in
set_option maxHeartbeats 4000000 in
theorem text_chain {w : World} {E b : Value} {l : List Pl} (kk : Int) (hb : IsBase b) (hch : Chain w E l b) (hk0 : 0 ≤ kk) (hk1 : kk ≤ 14)
    (hkind : ∀ W, Below w.heap.size w W → Calls Tryz.prog 10 #[E] W fun e w' => e = .returned (.int .i64 kk) ∧ Below W.heap.size W w')
    (hl : l.length ≤ 12) (hs : ∀ x ∈ l, Small x) (htab : Stamp.Tab w) :
    Calls Tryz.prog 18 #[E] w fun e w' => e = .returned (.string ⟨(textL l kk).toArray⟩) ∧ Below w.heap.size w w' := by
  obtain ⟨u, x, rfl⟩ := ne_nil hb hch
  have hb1 : Below w.heap.size w (w.alloc (.cells #[.pointer none, .slice none 0 0] 111)) := (Below.refl _ _).alloc (Nat.le_refl _) _
  have HP := Lib.hid (path_any (w := w.alloc (.cells #[.pointer none, .slice none 0 0] 111)) hb (hch.below hb1) (by omega))
  have HH := Lib.hid (has_new w)
  have HK := Lib.hid hkind
  have HT := Lib.hid htab
  have HS := Lib.hid hs
  clear hch hkind htab hs hb
  go_enter Tryz.func18, Tryz.ntmps18
  go_wp2_with fail
  go_at_call 47
  refine HP.out.mono ?_
  rintro e w1 ⟨v, rfl, hown, hb2⟩
  have hh1 := HH.out.below hb2
  have hbw := hb1.trans (hb2.mono hb1.size)
  clear hb1
  have hgeq : w.heap.size + 1 = (w.alloc (.cells #[.pointer none, .slice none 0 0] 111)).heap.size := by simp
  rcases hown.2 with ⟨rfl, h0⟩ | ⟨g, cap, cur, rfl, hBg, hg, hle, hcap, hsz, hcur⟩
  · have hnil : l = [] := List.eq_nil_of_length_eq_zero h0
    have HN := Lib.hid hnil
    clear hown h0 hnil hb2 hgeq
    go_wp2_with fail
    refine wp_loop_rounds 1 ?_
    rw [rounds_succ]
    have hz : (placesL l) = [] := by rw [HN.out]; rfl
    have hh2 : Has w.heap.size w.heap.size (placesL l) w1 := by rw [hz]; exact hh1
    clear hz hh1
    have HE := Lib.hid hh2
    have HW := Lib.hid hbw
    go_wp2_with fail
    go_at_call 10
    refine (HK.out _ HW.out).mono ?_
    rintro e w2 ⟨rfl, hb2⟩
    have HE2 := Lib.hid (HE.out.below hb2)
    have HW2 := Lib.hid (HW.out.trans (hb2.mono HW.out.size))
    clear hb2
    go_wp2_with fail
    go_at_call 50
    refine (error_any kk hk0 hk1 _).mono ?_
    rintro e w3 ⟨rfl, hb3⟩
    have HE3 := Lib.hid (HE2.out.below hb3)
    have HW3 := Lib.hid (HW2.out.trans (hb3.mono HW2.out.size))
    clear hb3
    go_wp2_with fail
    go_at_call 48
    refine (write_any w.heap.size w.heap.size _ (wordS kk) _ HE3.out (by have h1 := placesL_length l HS.out; have h2 := wordS_size kk hk0 hk1; omega) HW3.out.size).mono ?_
    rintro e w4 ⟨rfl, hh4, hb4, _⟩
    have HE4 := Lib.hid hh4
    have HW4 := Lib.hid (HW3.out.trans hb4)
    clear hh4 hb4
    go_wp2_with fail
    go_at_call 51
    refine (Tryz.Builder_String_any w.heap.size w.heap.size _ _ HE4.out HW4.out.size).mono ?_
    rintro e w5 ⟨rfl, hb5⟩
    go_wp2_with fail
    go_ret
    exact ⟨rfl, HW4.out.trans hb5⟩
  · rw [← hgeq] at hBg
    have HCUR := Lib.hid hcur
    have HG := Lib.hid hg
    have HH1 := Lib.hid hh1
    have hl1 : l.length ≤ cap := hle
    clear hown hh1 hb2 hcur hg hgeq hsz
    go_wp2_with fail
    go_loopg [9] l.length (fun k t wr => ∃ i, i + k = l.length ∧ t = .int .i64 i ∧ Has w.heap.size w.heap.size (placesL (l.take i)) wr ∧ Below w.heap.size w wr ∧ wr.heap[g]? = some (.cells cur 114 (0, 0)))
    case atStart => exact ⟨0, by omega, rfl, HH1.out, hbw, HG.out⟩
    case round =>
      obtain ⟨i, hik, rfl, hhr, hbr, hgr⟩ := hrel
      have HHR := Lib.hid hhr
      have HGR := Lib.hid hgr
      have HIK := Lib.hid hik
      clear hhr hgr hik hbw
      by_cases hi : i < l.length
      · obtain ⟨s, n, hx⟩ : ∃ s n, l[i]? = some (s, n) := ⟨_, _, List.getElem?_eq_getElem hi⟩
        have HSM := Lib.hid (HS.out (s, n) (List.mem_of_getElem? hx))
        have c0 : wr.cell? ⟨g, i * 2, none⟩ = some (.string s) := by rw [Lib.cell_of_heap HGR.out]; exact cur_at HCUR.out (plCells_at l i s n hx).1 (by omega)
        have c1 : wr.cell? ⟨g, i * 2 + 1, none⟩ = some (.int .i64 n) := by rw [Lib.cell_of_heap HGR.out]; exact cur_at HCUR.out (plCells_at l i s n hx).2 (by omega)
        have HX := Lib.hid hx
        have HI := Lib.hid (And.intro hi hl)
        clear hx
        have hgb : g ≠ w.heap.size := by omega
        have hpb : wr.heap.size ≠ w.heap.size := by rcases HHR.out with h | h <;> (have := h.lt; omega)
        have hbA : Below wr.heap.size wr (wr.alloc (.cells #[.string s, .int .i64 n] 114)) := (Below.refl _ _).alloc (Nat.le_refl _) _
        have HH0 := Lib.hid (HHR.out.below hbA)
        have HW0 := Lib.hid (hbr.trans (hbA.mono hbr.size))
        have HG0 := Lib.hid (heap_below hbA HGR.out)
        have HP0 := Lib.hid (show (wr.alloc (.cells #[.string s, .int .i64 n] 114)).heap[wr.heap.size]? = some (.cells #[.string s, .int .i64 n] 114 (0, 0)) by show (wr.heap.push _)[wr.heap.size]? = _; simp)
        clear hbA hbr
        go_wp2_with fail
        go_at_call 48
        refine (write_any w.heap.size w.heap.size _ s _ HH0.out (by have hI := HI.out; have h1 := placesL_length (l.take i) (fun x hx => HS.out x (List.mem_of_mem_take hx)); have h2 := HSM.out.1; have h3 := itoa_length n HSM.out.2.1 HSM.out.2.2; have h4 : (l.take i).length ≤ i := List.length_take_le _ _; have e1 : s.data.toList.length = s.size := rfl; have e2 : ({ data := #[32] } : ByteArray).size = 1 := rfl; have e3 : ({ data := #[58, 32] } : ByteArray).size = 2 := rfl; have e4 : (⟨(Lib.itoa n).toArray⟩ : ByteArray).size = (Lib.itoa n).length := (List.size_toArray ..); (try simp only [List.length_append, List.length_cons, List.length_nil, e1, e2, e3, e4]); (try simp only at h2); omega) HW0.out.size).mono ?_
        rintro e wa ⟨rfl, hha, hba, hka⟩
        have HHa := Lib.hid hha
        have HWa := Lib.hid (HW0.out.trans hba)
        have HGa := Lib.hid (keep_pl hka hgb HG0.out)
        have HPa := Lib.hid (keep_pl hka hpb HP0.out)
        clear hha hba hka
        go_wp2_with fail
        go_at_call 48
        refine (write_any w.heap.size w.heap.size _ { data := #[32] } _ HHa.out (by have hI := HI.out; have h1 := placesL_length (l.take i) (fun x hx => HS.out x (List.mem_of_mem_take hx)); have h2 := HSM.out.1; have h3 := itoa_length n HSM.out.2.1 HSM.out.2.2; have h4 : (l.take i).length ≤ i := List.length_take_le _ _; have e1 : s.data.toList.length = s.size := rfl; have e2 : ({ data := #[32] } : ByteArray).size = 1 := rfl; have e3 : ({ data := #[58, 32] } : ByteArray).size = 2 := rfl; have e4 : (⟨(Lib.itoa n).toArray⟩ : ByteArray).size = (Lib.itoa n).length := (List.size_toArray ..); (try simp only [List.length_append, List.length_cons, List.length_nil, e1, e2, e3, e4]); (try simp only at h2); omega) HWa.out.size).mono ?_
        rintro e wb ⟨rfl, hhb, hbb, hkb⟩
        have HHb := Lib.hid hhb
        have HWb := Lib.hid (HWa.out.trans hbb)
        have HGb := Lib.hid (keep_pl hkb hgb HGa.out)
        have HPb := Lib.hid (keep_pl hkb hpb HPa.out)
        clear hhb hbb hkb
        have hc1 : wb.cell? ⟨wr.heap.size, 1, none⟩ = some (.int .i64 n) := by rw [Lib.cell_of_heap HPb.out]; rfl
        go_wp2_with fail
        go_at_call 49
        refine (itoa_any n HSM.out.2.1 HSM.out.2.2 _ (Stamp.tab_below HT.out HWb.out)).mono ?_
        rintro e wc ⟨rfl, hbc⟩
        have HHc := Lib.hid (HHb.out.below hbc)
        have HWc := Lib.hid (HWb.out.trans (hbc.mono HWb.out.size))
        have HGc := Lib.hid (heap_below hbc HGb.out)
        have HPc := Lib.hid (heap_below hbc HPb.out)
        clear hbc hc1
        go_wp2_with fail
        go_at_call 48
        refine (write_any w.heap.size w.heap.size _ ⟨(Lib.itoa n).toArray⟩ _ HHc.out (by have hI := HI.out; have h1 := placesL_length (l.take i) (fun x hx => HS.out x (List.mem_of_mem_take hx)); have h2 := HSM.out.1; have h3 := itoa_length n HSM.out.2.1 HSM.out.2.2; have h4 : (l.take i).length ≤ i := List.length_take_le _ _; have e1 : s.data.toList.length = s.size := rfl; have e2 : ({ data := #[32] } : ByteArray).size = 1 := rfl; have e3 : ({ data := #[58, 32] } : ByteArray).size = 2 := rfl; have e4 : (⟨(Lib.itoa n).toArray⟩ : ByteArray).size = (Lib.itoa n).length := (List.size_toArray ..); (try simp only [List.length_append, List.length_cons, List.length_nil, e1, e2, e3, e4]); (try simp only at h2); omega) HWc.out.size).mono ?_
        rintro e wd ⟨rfl, hhd, hbd, hkd⟩
        have HHd := Lib.hid hhd
        have HWd := Lib.hid (HWc.out.trans hbd)
        have HGd := Lib.hid (keep_pl hkd hgb HGc.out)
        have HPd := Lib.hid (keep_pl hkd hpb HPc.out)
        clear hhd hbd hkd
        go_wp2_with fail
        go_at_call 48
        refine (write_any w.heap.size w.heap.size _ { data := #[58, 32] } _ HHd.out (by have hI := HI.out; have h1 := placesL_length (l.take i) (fun x hx => HS.out x (List.mem_of_mem_take hx)); have h2 := HSM.out.1; have h3 := itoa_length n HSM.out.2.1 HSM.out.2.2; have h4 : (l.take i).length ≤ i := List.length_take_le _ _; have e1 : s.data.toList.length = s.size := rfl; have e2 : ({ data := #[32] } : ByteArray).size = 1 := rfl; have e3 : ({ data := #[58, 32] } : ByteArray).size = 2 := rfl; have e4 : (⟨(Lib.itoa n).toArray⟩ : ByteArray).size = (Lib.itoa n).length := (List.size_toArray ..); (try simp only [List.length_append, List.length_cons, List.length_nil, e1, e2, e3, e4]); (try simp only at h2); omega) HWd.out.size).mono ?_
        rintro e we ⟨rfl, hhf, hbf, hkf⟩
        have HHf := Lib.hid hhf
        have HWf := Lib.hid (HWd.out.trans hbf)
        have HGf := Lib.hid (keep_pl hkf hgb HGd.out)
        have HPf := Lib.hid (keep_pl hkf hpb HPd.out)
        clear hhf hbf hkf
        go_wp2_with fail
        go_roundg (gk - 1)
        case measure => have := HIK.out; omega
        case rel =>
          refine ⟨i + 1, by have := HIK.out; omega, by go_num, ?_, HWf.out, HGf.out⟩
          have h := HHf.out
          have e1 : l.take (i + 1) = l.take i ++ [(s, n)] := by rw [List.take_add_one, HX.out]; rfl
          rw [e1, placesL_snoc]
          exact h
      · have hin : i = l.length := by have := HIK.out; omega
        have hh2 : Has w.heap.size w.heap.size (placesL l) wr := by have h := HHR.out; rw [hin, List.take_length] at h; exact h
        clear hin HHR HIK
        have HE := Lib.hid hh2
        have HW := Lib.hid hbr
        go_wp2_with fail
        go_at_call 10
        refine (HK.out _ HW.out).mono ?_
        rintro e w2 ⟨rfl, hb2⟩
        have HE2 := Lib.hid (HE.out.below hb2)
        have HW2 := Lib.hid (HW.out.trans (hb2.mono HW.out.size))
        clear hb2
        go_wp2_with fail
        go_at_call 50
        refine (error_any kk hk0 hk1 _).mono ?_
        rintro e w3 ⟨rfl, hb3⟩
        have HE3 := Lib.hid (HE2.out.below hb3)
        have HW3 := Lib.hid (HW2.out.trans (hb3.mono HW2.out.size))
        clear hb3
        go_wp2_with fail
        go_at_call 48
        refine (write_any w.heap.size w.heap.size _ (wordS kk) _ HE3.out (by have h1 := placesL_length l HS.out; have h2 := wordS_size kk hk0 hk1; omega) HW3.out.size).mono ?_
        rintro e w4 ⟨rfl, hh4, hb4, _⟩
        have HE4 := Lib.hid hh4
        have HW4 := Lib.hid (HW3.out.trans hb4)
        clear hh4 hb4
        go_wp2_with fail
        go_at_call 51
        refine (Tryz.Builder_String_any w.heap.size w.heap.size _ _ HE4.out HW4.out.size).mono ?_
        rintro e w5 ⟨rfl, hb5⟩
        go_wp2_with fail
        go_ret
        exact ⟨rfl, HW4.out.trans hb5⟩
end Go.Proofs.YtdllgeanmlmmfaaGreatDoor.Fault
