/-
  PACKAGE fault's Text, walked: what it answers of nil, and of a chain of at most twelve short places.
  PACKAGE fault's At, and the laws' own look whether an error is told at its places.
  PACKAGE marchlandlaw05: told.
-/
import Derived.Test.YtpciionbjaoniaaGreatDoorJoined21
import Derived.Test.YtpciionbjaoniaaGreatDoorGFix
namespace Go.Proofs.YtpciionbjaoniaaGreatDoor.Fault
open Go.RowKit
set_option linter.unusedVariables false
set_option linter.unusedSimpArgs false

/-- The end of Text: the kind's word behind the places. -/
theorem plCells_at (l : List Pl) (i : Nat) (s : ByteArray) (n : Int) (h : l[i]? = some (s, n)) : (plCells l)[i * 2]? = some (.string s) ∧ (plCells l)[i * 2 + 1]? = some (.int .i64 n) := by
  induction l generalizing i with
  | nil => simp at h
  | cons x r ih =>
    cases i with
    | zero => simp at h; subst h; exact ⟨rfl, rfl⟩
    | succ i =>
      have h' : r[i]? = some (s, n) := by simpa using h
      obtain ⟨a, b⟩ := ih i h'
      have e : plCells (x :: r) = .string x.1 :: .int .i64 x.2 :: plCells r := rfl
      rw [e, show (i + 1) * 2 = i * 2 + 2 by omega, show i * 2 + 2 + 1 = (i * 2 + 1) + 2 by omega]
      exact ⟨by simpa using a, by simpa using b⟩

theorem keep_pl {b k : Nat} {w w' : World} {cs : Array Value} (h : Bld.Keeps b w w') (hk : k ≠ b) (hw : w.heap[k]? = some (.cells cs 218 (0, 0))) : w'.heap[k]? = some (.cells cs 218 (0, 0)) :=
  h.2 k _ hk hw (fun cur fz e => by injection e with _ h2 _; revert h2; decide)
theorem heap_below {k : Nat} {w w' : World} {o : Obj} (h : Below w.heap.size w w') (hw : w.heap[k]? = some o) : w'.heap[k]? = some o := by
  have hk : k < w.heap.size := by
    rcases Nat.lt_or_ge k w.heap.size with h1 | h1
    · exact h1
    · rw [Array.getElem?_eq_none h1] at hw; cases hw
  rw [h.block k hk]; exact hw
theorem cur_at {cur : Array Value} {l : List Pl} (h : cur.toList.take (l.length * 2) = plCells l) {j : Nat} {v : Value} (hv : (plCells l)[j]? = some v) (hj : j < l.length * 2) : cur[j]? = some v := by
  rw [← h, List.getElem?_take_of_lt hj] at hv
  rw [← Array.getElem?_toList]; exact hv

set_option maxRecDepth 1000000 in
set_option maxHeartbeats 4000000 in
theorem text_chain {w : World} {E b : Value} {l : List Pl} (kk : Int) (hb : IsBase b) (hch : Chain w E l b) (hk0 : 0 ≤ kk) (hk1 : kk ≤ 14)
    (hkind : ∀ W, Below w.heap.size w W → Calls Tryz.prog 44 #[E] W fun e w' => e = .returned (.int .i64 kk) ∧ Below W.heap.size W w')
    (hl : l.length ≤ 12) (hs : ∀ x ∈ l, Small x) (htab : Stamp.Tab w) :
    Calls Tryz.prog 51 #[E] w fun e w' => e = .returned (.string ⟨(textL l kk).toArray⟩) ∧ Below w.heap.size w w' := by
  obtain ⟨u, x, rfl⟩ := ne_nil hb hch
  have hb1 : Below w.heap.size w (w.alloc (.cells #[.pointer none, .slice none 0 0] 215)) := (Below.refl _ _).alloc (Nat.le_refl _) _
  have HP := Lib.hid (path_any (w := w.alloc (.cells #[.pointer none, .slice none 0 0] 215)) hb (hch.below hb1) (by omega))
  have HH := Lib.hid (has_new w)
  have HK := Lib.hid hkind
  have HT := Lib.hid htab
  have HS := Lib.hid hs
  clear hch hkind htab hs hb
  go_enter Tryz.func51, Tryz.ntmps51
  go_wp2_with fail
  go_at_call 120
  refine HP.out.mono ?_
  rintro e w1 ⟨v, rfl, hown, hb2⟩
  have hh1 := HH.out.below hb2
  have hbw := hb1.trans (hb2.mono hb1.size)
  clear hb1
  have hgeq : w.heap.size + 1 = (w.alloc (.cells #[.pointer none, .slice none 0 0] 215)).heap.size := by simp
  rcases hown.2 with ⟨rfl, h0⟩ | ⟨g, cap, cur, rfl, hBg, hg, hle, hcap, hsz, hcur⟩
  · have hnil : l = [] := List.eq_nil_of_length_eq_zero h0
    have HN := Lib.hid hnil
    clear hown h0 hnil hb2 hgeq
    go_wp2_with fail
    refine wp_loop_rounds 1 ?_
    rw [rounds_succ]
    have hz : (placesL l) = [] := by rw [HN.out]; rfl
    have hh2 : Has w.heap.size w.heap.size (placesL l) w1 := by rw [hz]; exact hh1
    clear hz hh1
    have HE := Lib.hid hh2
    have HW := Lib.hid hbw
    go_wp2_with fail
    go_at_call 44
    refine (HK.out _ HW.out).mono ?_
    rintro e w2 ⟨rfl, hb2⟩
    have HE2 := Lib.hid (HE.out.below hb2)
    have HW2 := Lib.hid (HW.out.trans (hb2.mono HW.out.size))
    clear hb2
    go_wp2_with fail
    go_at_call 123
    refine (error_any kk hk0 hk1 _).mono ?_
    rintro e w3 ⟨rfl, hb3⟩
    have HE3 := Lib.hid (HE2.out.below hb3)
    have HW3 := Lib.hid (HW2.out.trans (hb3.mono HW2.out.size))
    clear hb3
    go_wp2_with fail
    go_at_call 121
    refine (write_any w.heap.size w.heap.size _ (wordS kk) _ HE3.out (by have h1 := placesL_length l HS.out; have h2 := wordS_size kk hk0 hk1; omega) HW3.out.size).mono ?_
    rintro e w4 ⟨rfl, hh4, hb4, _⟩
    have HE4 := Lib.hid hh4
    have HW4 := Lib.hid (HW3.out.trans hb4)
    clear hh4 hb4
    go_wp2_with fail
    go_at_call 124
    refine (Tryz.Builder_String_any w.heap.size w.heap.size _ _ HE4.out HW4.out.size).mono ?_
    rintro e w5 ⟨rfl, hb5⟩
    go_wp2_with fail
    go_ret
    exact ⟨rfl, HW4.out.trans hb5⟩
  · rw [← hgeq] at hBg
    have HCUR := Lib.hid hcur
    have HG := Lib.hid hg
    have HH1 := Lib.hid hh1
    have hl1 : l.length ≤ cap := hle
    clear hown hh1 hb2 hcur hg hgeq hsz
    go_wp2_with fail
    go_loopg [9] l.length (fun k t wr => ∃ i, i + k = l.length ∧ t = .int .i64 i ∧ Has w.heap.size w.heap.size (placesL (l.take i)) wr ∧ Below w.heap.size w wr ∧ wr.heap[g]? = some (.cells cur 218 (0, 0)))
    case atStart => exact ⟨0, by omega, rfl, HH1.out, hbw, HG.out⟩
    case round =>
      obtain ⟨i, hik, rfl, hhr, hbr, hgr⟩ := hrel
      have HHR := Lib.hid hhr
      have HGR := Lib.hid hgr
      have HIK := Lib.hid hik
      clear hhr hgr hik hbw
      by_cases hi : i < l.length
      · obtain ⟨s, n, hx⟩ : ∃ s n, l[i]? = some (s, n) := ⟨_, _, List.getElem?_eq_getElem hi⟩
        have HSM := Lib.hid (HS.out (s, n) (List.mem_of_getElem? hx))
        have c0 : wr.cell? ⟨g, i * 2, none⟩ = some (.string s) := by rw [Lib.cell_of_heap HGR.out]; exact cur_at HCUR.out (plCells_at l i s n hx).1 (by omega)
        have c1 : wr.cell? ⟨g, i * 2 + 1, none⟩ = some (.int .i64 n) := by rw [Lib.cell_of_heap HGR.out]; exact cur_at HCUR.out (plCells_at l i s n hx).2 (by omega)
        have HX := Lib.hid hx
        have HI := Lib.hid (And.intro hi hl)
        clear hx
        have hgb : g ≠ w.heap.size := by omega
        have hpb : wr.heap.size ≠ w.heap.size := by rcases HHR.out with h | h <;> (have := h.lt; omega)
        have hbA : Below wr.heap.size wr (wr.alloc (.cells #[.string s, .int .i64 n] 218)) := (Below.refl _ _).alloc (Nat.le_refl _) _
        have HH0 := Lib.hid (HHR.out.below hbA)
        have HW0 := Lib.hid (hbr.trans (hbA.mono hbr.size))
        have HG0 := Lib.hid (heap_below hbA HGR.out)
        have HP0 := Lib.hid (show (wr.alloc (.cells #[.string s, .int .i64 n] 218)).heap[wr.heap.size]? = some (.cells #[.string s, .int .i64 n] 218 (0, 0)) by show (wr.heap.push _)[wr.heap.size]? = _; simp)
        clear hbA hbr
        go_wp2_with fail
        go_at_call 121
        refine (write_any w.heap.size w.heap.size _ s _ HH0.out (by have hI := HI.out; have h1 := placesL_length (l.take i) (fun x hx => HS.out x (List.mem_of_mem_take hx)); have h2 := HSM.out.1; have h3 := itoa_length n HSM.out.2.1 HSM.out.2.2; have h4 : (l.take i).length ≤ i := List.length_take_le _ _; have e1 : s.data.toList.length = s.size := rfl; have e2 : ({ data := #[32] } : ByteArray).size = 1 := rfl; have e3 : ({ data := #[58, 32] } : ByteArray).size = 2 := rfl; have e4 : (⟨(Lib.itoa n).toArray⟩ : ByteArray).size = (Lib.itoa n).length := (List.size_toArray ..); (try simp only [List.length_append, List.length_cons, List.length_nil, e1, e2, e3, e4]); (try simp only at h2); omega) HW0.out.size).mono ?_
        rintro e wa ⟨rfl, hha, hba, hka⟩
        have HHa := Lib.hid hha
        have HWa := Lib.hid (HW0.out.trans hba)
        have HGa := Lib.hid (keep_pl hka hgb HG0.out)
        have HPa := Lib.hid (keep_pl hka hpb HP0.out)
        clear hha hba hka
        go_wp2_with fail
        go_at_call 121
        refine (write_any w.heap.size w.heap.size _ { data := #[32] } _ HHa.out (by have hI := HI.out; have h1 := placesL_length (l.take i) (fun x hx => HS.out x (List.mem_of_mem_take hx)); have h2 := HSM.out.1; have h3 := itoa_length n HSM.out.2.1 HSM.out.2.2; have h4 : (l.take i).length ≤ i := List.length_take_le _ _; have e1 : s.data.toList.length = s.size := rfl; have e2 : ({ data := #[32] } : ByteArray).size = 1 := rfl; have e3 : ({ data := #[58, 32] } : ByteArray).size = 2 := rfl; have e4 : (⟨(Lib.itoa n).toArray⟩ : ByteArray).size = (Lib.itoa n).length := (List.size_toArray ..); (try simp only [List.length_append, List.length_cons, List.length_nil, e1, e2, e3, e4]); (try simp only at h2); omega) HWa.out.size).mono ?_
        rintro e wb ⟨rfl, hhb, hbb, hkb⟩
        have HHb := Lib.hid hhb
        have HWb := Lib.hid (HWa.out.trans hbb)
        have HGb := Lib.hid (keep_pl hkb hgb HGa.out)
        have HPb := Lib.hid (keep_pl hkb hpb HPa.out)
        clear hhb hbb hkb
        have hc1 : wb.cell? ⟨wr.heap.size, 1, none⟩ = some (.int .i64 n) := by rw [Lib.cell_of_heap HPb.out]; rfl
        go_wp2_with fail
        go_at_call 122
        refine (itoa_any n HSM.out.2.1 HSM.out.2.2 _ (Stamp.tab_below HT.out HWb.out)).mono ?_
        rintro e wc ⟨rfl, hbc⟩
        have HHc := Lib.hid (HHb.out.below hbc)
        have HWc := Lib.hid (HWb.out.trans (hbc.mono HWb.out.size))
        have HGc := Lib.hid (heap_below hbc HGb.out)
        have HPc := Lib.hid (heap_below hbc HPb.out)
        clear hbc hc1
        go_wp2_with fail
        go_at_call 121
        refine (write_any w.heap.size w.heap.size _ ⟨(Lib.itoa n).toArray⟩ _ HHc.out (by have hI := HI.out; have h1 := placesL_length (l.take i) (fun x hx => HS.out x (List.mem_of_mem_take hx)); have h2 := HSM.out.1; have h3 := itoa_length n HSM.out.2.1 HSM.out.2.2; have h4 : (l.take i).length ≤ i := List.length_take_le _ _; have e1 : s.data.toList.length = s.size := rfl; have e2 : ({ data := #[32] } : ByteArray).size = 1 := rfl; have e3 : ({ data := #[58, 32] } : ByteArray).size = 2 := rfl; have e4 : (⟨(Lib.itoa n).toArray⟩ : ByteArray).size = (Lib.itoa n).length := (List.size_toArray ..); (try simp only [List.length_append, List.length_cons, List.length_nil, e1, e2, e3, e4]); (try simp only at h2); omega) HWc.out.size).mono ?_
        rintro e wd ⟨rfl, hhd, hbd, hkd⟩
        have HHd := Lib.hid hhd
        have HWd := Lib.hid (HWc.out.trans hbd)
        have HGd := Lib.hid (keep_pl hkd hgb HGc.out)
        have HPd := Lib.hid (keep_pl hkd hpb HPc.out)
        clear hhd hbd hkd
        go_wp2_with fail
        go_at_call 121
        refine (write_any w.heap.size w.heap.size _ { data := #[58, 32] } _ HHd.out (by have hI := HI.out; have h1 := placesL_length (l.take i) (fun x hx => HS.out x (List.mem_of_mem_take hx)); have h2 := HSM.out.1; have h3 := itoa_length n HSM.out.2.1 HSM.out.2.2; have h4 : (l.take i).length ≤ i := List.length_take_le _ _; have e1 : s.data.toList.length = s.size := rfl; have e2 : ({ data := #[32] } : ByteArray).size = 1 := rfl; have e3 : ({ data := #[58, 32] } : ByteArray).size = 2 := rfl; have e4 : (⟨(Lib.itoa n).toArray⟩ : ByteArray).size = (Lib.itoa n).length := (List.size_toArray ..); (try simp only [List.length_append, List.length_cons, List.length_nil, e1, e2, e3, e4]); (try simp only at h2); omega) HWd.out.size).mono ?_
        rintro e we ⟨rfl, hhf, hbf, hkf⟩
        have HHf := Lib.hid hhf
        have HWf := Lib.hid (HWd.out.trans hbf)
        have HGf := Lib.hid (keep_pl hkf hgb HGd.out)
        have HPf := Lib.hid (keep_pl hkf hpb HPd.out)
        clear hhf hbf hkf
        go_wp2_with fail
        go_roundg (gk - 1)
        case measure => have := HIK.out; omega
        case rel =>
          refine ⟨i + 1, by have := HIK.out; omega, by go_num, ?_, HWf.out, HGf.out⟩
          have h := HHf.out
          have e1 : l.take (i + 1) = l.take i ++ [(s, n)] := by rw [List.take_add_one, HX.out]; rfl
          rw [e1, placesL_snoc]
          exact h
      · have hin : i = l.length := by have := HIK.out; omega
        have hh2 : Has w.heap.size w.heap.size (placesL l) wr := by have h := HHR.out; rw [hin, List.take_length] at h; exact h
        clear hin HHR HIK
        have HE := Lib.hid hh2
        have HW := Lib.hid hbr
        go_wp2_with fail
        go_at_call 44
        refine (HK.out _ HW.out).mono ?_
        rintro e w2 ⟨rfl, hb2⟩
        have HE2 := Lib.hid (HE.out.below hb2)
        have HW2 := Lib.hid (HW.out.trans (hb2.mono HW.out.size))
        clear hb2
        go_wp2_with fail
        go_at_call 123
        refine (error_any kk hk0 hk1 _).mono ?_
        rintro e w3 ⟨rfl, hb3⟩
        have HE3 := Lib.hid (HE2.out.below hb3)
        have HW3 := Lib.hid (HW2.out.trans (hb3.mono HW2.out.size))
        clear hb3
        go_wp2_with fail
        go_at_call 121
        refine (write_any w.heap.size w.heap.size _ (wordS kk) _ HE3.out (by have h1 := placesL_length l HS.out; have h2 := wordS_size kk hk0 hk1; omega) HW3.out.size).mono ?_
        rintro e w4 ⟨rfl, hh4, hb4, _⟩
        have HE4 := Lib.hid hh4
        have HW4 := Lib.hid (HW3.out.trans hb4)
        clear hh4 hb4
        go_wp2_with fail
        go_at_call 124
        refine (Tryz.Builder_String_any w.heap.size w.heap.size _ _ HE4.out HW4.out.size).mono ?_
        rintro e w5 ⟨rfl, hb5⟩
        go_wp2_with fail
        go_ret
        exact ⟨rfl, HW4.out.trans hb5⟩
end Go.Proofs.YtpciionbjaoniaaGreatDoor.Fault
namespace Go.Proofs.YtpciionbjaoniaaGreatDoor.Fault
open Go.RowKit
set_option linter.unusedVariables false

theorem at_nil (s : ByteArray) (n : Int) (w : World) : Calls Tryz.prog 94 #[.nilIface, .string s, .int .i64 n] w fun e w' => e = .returned .nilIface ∧ w' = w := by
  go_enter Tryz.func94, Tryz.ntmps94
  go_wp2
  go_ret
  exact ⟨rfl, rfl⟩
abbrev placedO (v : Value) (s : ByteArray) (n : Int) : Obj := .cells #[v, .string s, .int .i64 n] 265
theorem at_some (u : TypeId) (x : Value) (s : ByteArray) (n : Int) (w : World) : Calls Tryz.prog 94 #[.iface u x, .string s, .int .i64 n] w fun e w' => e = .returned (placedV w.heap.size) ∧ w' = w.alloc (placedO (.iface u x) s n) := by
  go_enter Tryz.func94, Tryz.ntmps94
  go_wp2
  go_ret
  exact ⟨rfl, rfl⟩
theorem chain_cons {w : World} {v b : Value} {l : List Pl} (s : ByteArray) (n : Int) (h : Chain w v l b) : Chain (w.alloc (placedO v s n)) (placedV w.heap.size) ((s, n) :: l) b :=
  ⟨w.heap.size, v, rfl, by simp, by simp, by simp, h.below ((Below.refl _ _).alloc (Nat.le_refl _) _)⟩

/-- What the laws read of the library's variables. -/
structure LV (w : World) : Prop where
  tab : Stamp.Tab w
  typ : ErrType w
theorem LV.below {w w' : World} (h : LV w) (hb : Below w.heap.size w w') : LV w' :=
  ⟨Stamp.tab_below h.tab hb, (hb.cell (p := ⟨0, 0, none⟩) (Lib.lt_of_cell h.typ)).trans h.typ⟩
theorem text_errno {w : World} {E : Value} {l : List Pl} (k : Int) (hL : LV w) (hch : Chain w E l (errnoV k)) (hk0 : 0 ≤ k) (hk1 : k ≤ 14) (hl : l.length ≤ 12) (hs : ∀ x ∈ l, Small x) :
    Calls Tryz.prog 51 #[E] w fun e w' => e = .returned (.string ⟨(textL l k).toArray⟩) ∧ Below w.heap.size w w' :=
  text_chain k (.inl ⟨k, rfl⟩) hch hk0 hk1 (fun W hW => kind_errno k (hL.below hW).typ (hch.below hW)) hl hs hL.tab
set_option maxRecDepth 1000000 in
set_option maxHeartbeats 2000000 in
theorem text_nil (w : World) : Calls Tryz.prog 51 #[.nilIface] w fun e w' => e = .returned (.string { data := #[111, 107] }) ∧ Below w.heap.size w w' := by
  have HH := Lib.hid (has_new w)
  have HW0 := Lib.hid (show Below w.heap.size w (w.alloc (.cells #[.pointer none, .slice none 0 0] 215)) from (Below.refl _ _).alloc (Nat.le_refl _) _)
  go_enter Tryz.func51, Tryz.ntmps51
  go_wp2_with fail
  go_at_call 120
  refine (path_nil _).mono ?_
  rintro e w1 ⟨rfl, rfl⟩
  go_wp2_with fail
  refine wp_loop_rounds 1 ?_
  rw [rounds_succ]
  go_wp2_with fail
  go_at_call 44
  refine (kind_nil _).mono ?_
  rintro e w2 ⟨rfl, hb2⟩
  have HE2 := Lib.hid (HH.out.below hb2)
  have HW2 := Lib.hid (HW0.out.trans (hb2.mono HW0.out.size))
  clear hb2
  go_wp2_with fail
  go_at_call 123
  refine (error_any 0 (by decide) (by decide) _).mono ?_
  rintro e w3 ⟨rfl, hb3⟩
  have HE3 := Lib.hid (HE2.out.below hb3)
  have HW3 := Lib.hid (HW2.out.trans (hb3.mono HW2.out.size))
  clear hb3
  go_wp2_with fail
  go_at_call 121
  refine (write_any w.heap.size w.heap.size _ (wordS 0) _ HE3.out (by decide) HW3.out.size).mono ?_
  rintro e w4 ⟨rfl, hh4, hb4, _⟩
  have HE4 := Lib.hid hh4
  have HW4 := Lib.hid (HW3.out.trans hb4)
  clear hh4 hb4
  go_wp2_with fail
  go_at_call 124
  refine (Tryz.Builder_String_any w.heap.size w.heap.size _ _ HE4.out HW4.out.size).mono ?_
  rintro e w5 ⟨rfl, hb5⟩
  go_wp2_with fail
  go_ret
  exact ⟨rfl, HW4.out.trans hb5⟩

theorem toldText : ((⟨(textL [({ data := #[101, 100, 103, 101] }, 3), ({ data := #[116, 111] }, 9)] 2).toArray⟩ : ByteArray).toList == [101, 100, 103, 101, 32, 51, 58, 32, 116, 111, 32, 57, 58, 32, 112, 111, 114, 116]) = true := by
  rw [Lib.toList_data]
  simp [textL, placesL, placeL, Lib.itoa, Lib.decDigits, wordS, wordL]

theorem told_text : ∃ S : ByteArray, (S.toList == [101, 100, 103, 101, 32, 51, 58, 32, 116, 111, 32, 57, 58, 32, 112, 111, 114, 116]) = true ∧ ∀ (w : World) (E : Value), LV w → Chain w E [({ data := #[101, 100, 103, 101] }, 3), ({ data := #[116, 111] }, 9)] (errnoV 2) →
    Calls Tryz.prog 51 #[E] w fun e w' => e = .returned (.string S) ∧ Below w.heap.size w w' :=
  ⟨_, toldText, fun w E hL hch => text_errno 2 hL hch (by decide) (by decide) (by decide) (by
    intro x hx
    simp at hx
    rcases hx with rfl | rfl <;> exact ⟨by decide, by decide, by decide⟩)⟩

end Go.Proofs.YtpciionbjaoniaaGreatDoor.Fault
namespace Go.Proofs.YtpciionbjaoniaaGreatDoor.Gr
open Go.RowKit Go.Deep Go.Proofs.YtpciionbjaoniaaGreatDoor.Fault
set_option linter.unusedVariables false

def T1 : List Ed := [⟨0, 1, 0⟩, ⟨1, 0, 1⟩]
def T2 : List Ed := [⟨0, 1, 0⟩, ⟨1, 0, 0⟩]
theorem t1_wf : ∀ x ∈ T1, x.Wf := by
  intro x hx
  unfold T1 at hx
  simp at hx
  rcases hx with rfl | rfl <;> exact ⟨by decide, by decide, by decide, by decide, by decide, by decide⟩
theorem t2_wf : ∀ x ∈ T2, x.Wf := by
  intro x hx
  unfold T2 at hx
  simp at hx
  rcases hx with rfl | rfl <;> exact ⟨by decide, by decide, by decide, by decide, by decide, by decide⟩
theorem t1_fits : Fits T1 2 := by
  intro x hx
  unfold T1 at hx
  simp at hx
  rcases hx with rfl | rfl <;> exact ⟨by decide, by decide, by decide, by decide, by decide, by decide⟩
theorem zero_ok (n : Int) (h : 1 ≤ n) : InOk n [0] ([0] : List Int).length := InOk.snoc (l := []) (fun j p hj => absurd hj (by simp)) ⟨Int.le_refl _, by omega⟩ (by simp)
theorem t1_rise : ∀ e ∈ T1, e.f < e.t ∨ 1 ≤ e.a := by
  intro x hx
  unfold T1 at hx
  simp at hx
  rcases hx with rfl | rfl <;> decide
theorem t1_ok : GOk 2 T1 [0] :=
  ⟨by decide, by decide, by decide, t1_fits, chkV_ok (by decide) (by decide) (by decide) t1_fits (by simp) (by decide) (zero_ok _ (by decide)) (no_round (fun e he => (t1_fits e he).2.2.2.2.1) t1_rise)⟩
theorem t1_paths {M : Nat → Nat → Int} (h : LeastM T1 true 2 M) : M 1 0 = 1 ∧ M 0 1 = 0 := by
  have h10 := h 1 0 (by decide) (by decide)
  have h01 := h 0 1 (by decide) (by decide)
  have e0 : (⟨0, 1, 0⟩ : Ed) ∈ T1 := by unfold T1; simp
  have e1 : (⟨1, 0, 1⟩ : Ed) ∈ T1 := by unfold T1; simp
  have a1 := h10.2 [⟨1, 0, 1⟩] (Way.edge (z := true) e1)
  have a0 := h01.2 [⟨0, 1, 0⟩] (Way.edge (z := true) e0)
  have b1 := h10.1.1
  have b0 := h01.1.1
  simp only [cost] at a0 a1
  refine ⟨?_, by omega⟩
  by_cases hz : M 1 0 = 0
  · rcases h10.1.2 with e | ⟨es, hw, hc⟩
    · omega
    · have := chn_rises (fun e he => (t1_fits e he).2.2.2.2.1) t1_rise hw.1 (by omega)
      simp at this
      omega
  · omega
theorem t2_fits : Fits T2 2 := by
  intro x hx
  unfold T2 at hx
  simp at hx
  rcases hx with rfl | rfl <;> exact ⟨by decide, by decide, by decide, by decide, by decide, by decide⟩
theorem t2_round : Round T2 (0 : Nat) := by
  have e0 : (⟨0, 1, 0⟩ : Ed) ∈ T2 := by unfold T2; simp
  have e1 : (⟨1, 0, 0⟩ : Ed) ∈ T2 := by unfold T2; simp
  exact ⟨[⟨0, 1, 0⟩, ⟨1, 0, 0⟩], ⟨⟨e0, rfl, e1, rfl, rfl⟩, .inr (by simp)⟩, by simp [cost]⟩
theorem chkV_cyc {n : Nat} {E : List Ed} {I : List Int} {p : Nat} (n0 : 1 ≤ n) (n1 : n ≤ 64) (hl : E.length ≤ 256) (hf : Fits E n) (i0 : I ≠ []) (i1 : I.length ≤ 8) (hi : InOk n I I.length) (hp : p < n) (hr : Round E (p : Nat)) (hq : ∀ q : Nat, q < p → ¬ Round E (q : Nat)) : chkV (n : Int) E I = ([(portS, (p : Int))], 3) := by
  unfold chkV
  rw [if_neg (by omega), if_neg (by omega), if_neg (by rw [edgesV_ok (fun y hy => ⟨⟨(hf y hy).1, (hf y hy).2.1⟩, ⟨(hf y hy).2.2.1, (hf y hy).2.2.2.1⟩⟩)]; simp), if_neg (by have : I.length ≠ 0 := fun e => i0 (List.length_eq_zero_iff.1 e); omega), if_neg (by rw [inputsV_ok hi]; simp), Int.toNat_natCast, cycO_eq (.inl ⟨p, rfl, hp, hr, hq⟩)]
  rfl
theorem t2_chk : chkV (2 : Int) T2 [0] = ([(portS, 0)], 3) := chkV_cyc (n := 2) (p := 0) (by decide) (by decide) (by decide) t2_fits (by simp) (by decide) (zero_ok _ (by decide)) (by decide) t2_round (fun q hq => absurd hq (by omega))
theorem t3_chk : chkV 0 [] [] = ([], 2) := by unfold chkV; rw [if_pos (by decide)]
theorem t2_textS : ((⟨(textL [(portS, 0)] 3).toArray⟩ : ByteArray).toList == [112, 111, 114, 116, 32, 48, 58, 32, 99, 121, 99, 108, 101]) = true := by
  rw [Lib.toList_data]
  simp [textL, placesL, placeL, Lib.itoa, Lib.decDigits, wordS, wordL, portS]
theorem t2_text : ∃ S : ByteArray, (S.toList == [112, 111, 114, 116, 32, 48, 58, 32, 99, 121, 99, 108, 101]) = true ∧ ∀ (w : World) (E : Value), LV w → Chain w E [(portS, 0)] (errnoV 3) →
    Calls Tryz.prog 51 #[E] w fun e w' => e = .returned (.string S) ∧ Below w.heap.size w w' :=
  ⟨_, t2_textS, fun w E hL hch => text_errno 3 hL hch (by decide) (by decide) (by decide) (by
    intro x hx
    simp at hx
    rcases hx with rfl
    exact ⟨by decide, by decide, by decide⟩)⟩
theorem rd_new {w : World} {T : TypeId} (l : List Ed) (hl : l.length ≤ 1000) (hw : ∀ x ∈ l, x.Wf) : Rd (w.alloc (.cells (cellsL l).toArray T)) (.slice (some ⟨w.heap.size, 0, none⟩) l.length l.length) l := by
  refine ⟨_, _, rfl, Nat.le_refl _, by omega, hw, .inr ⟨w.heap.size, 0, rfl, fun i x hx => ?_⟩⟩
  have hc : ∀ c u, c < 3 → x.cells[c]? = some u → (w.alloc (.cells (cellsL l).toArray T)).cell? ⟨w.heap.size, 0 + i * 3 + c, none⟩ = some u := by
    intro c u hc hu
    rw [cell_of_row _ w.heap.size (0 + i * 3 + c) _ T (0, 0) (heap_alloc_new w _)]
    rw [Nat.zero_add]
    have := cellsL_at hx c hc
    simp only [List.getElem?_toArray]
    rw [this]
    exact hu
  exact ⟨hc 0 _ (by omega) rfl, hc 1 _ (by omega) rfl, hc 2 _ (by omega) rfl⟩
theorem rdi_new {w : World} {T : TypeId} : RdI (w.alloc (.cells #[.int .i64 0] T)) (.slice (some ⟨w.heap.size, 0, none⟩) 1 1) [0] :=
  (own1 (w := w) (base := 0) (T := T) 0 (Nat.zero_le _)).rd (by intro x hx; simp at hx; subst hx; decide)
theorem graph_new (w : World) {cs : Array Value} (l : List Ed) (n : Int) (k : Nat) (hc : cs = (cellsL l).toArray) (hk : k = l.length) (hl : l.length ≤ 1000) (hw : ∀ x ∈ l, x.Wf) {W : World}
    (hW : W = ((w.alloc (.cells cs 173)).alloc (.cells #[.int .i64 0] 3)).alloc (.cells #[.int .i64 n, .slice (some ⟨w.heap.size, 0, none⟩) k k, .slice (some ⟨w.heap.size + 1, 0, none⟩) 1 1] 56)) :
    GMemP W (.slice (some ⟨w.heap.size, 0, none⟩) k k) (.slice (some ⟨w.heap.size + 1, 0, none⟩) 1 1) l [0] ∧ Below w.heap.size w W ∧
      W.heap[w.heap.size + 1 + 1]? = some (.cells #[.int .i64 n, .slice (some ⟨w.heap.size, 0, none⟩) k k, .slice (some ⟨w.heap.size + 1, 0, none⟩) 1 1] 56 (0, 0)) := by
  subst hc hk hW
  have s1 : (w.alloc (.cells (cellsL l).toArray 173)).heap.size = w.heap.size + 1 := by simp
  have s2 : ((w.alloc (.cells (cellsL l).toArray 173)).alloc (.cells #[.int .i64 0] 3)).heap.size = w.heap.size + 1 + 1 := by simp
  have b1 : Below (w.heap.size + 1) (w.alloc (.cells (cellsL l).toArray 173)) ((w.alloc (.cells (cellsL l).toArray 173)).alloc (.cells #[.int .i64 0] 3)) := (Below.refl _ _).alloc (by rw [s1]; exact Nat.le_refl _) _
  have hi := rdi_new (w := w.alloc (.cells (cellsL l).toArray 173)) (T := 3)
  rw [s1] at hi
  refine ⟨⟨((rd_new l hl hw).below (by rw [s1]; exact b1)).below ((Below.refl _ _).alloc (Nat.le_refl _) _), hi.below ((Below.refl _ _).alloc (Nat.le_refl _) _)⟩, (((Below.refl _ _).alloc (Nat.le_refl _) _).alloc (by simp) _).alloc (by simp; omega) _, ?_⟩
  have h := heap_alloc_new ((w.alloc (.cells (cellsL l).toArray 173)).alloc (.cells #[.int .i64 0] 3)) (.cells #[.int .i64 n, .slice (some ⟨w.heap.size, 0, none⟩) l.length l.length, .slice (some ⟨w.heap.size + 1, 0, none⟩) 1 1] 56)
  rwa [s2] at h
end Go.Proofs.YtpciionbjaoniaaGreatDoor.Gr
