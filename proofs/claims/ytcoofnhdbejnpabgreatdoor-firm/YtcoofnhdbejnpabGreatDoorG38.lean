/- Package queries: the three lists as texts. -/
import Derived.Test.YtcoofnhdbejnpabGreatDoorG01
import Derived.Test.YtcoofnhdbejnpabGreatDoorG19
import Derived.Test.YtcoofnhdbejnpabGreatDoorG37
import Derived.Test.YtcoofnhdbejnpabGreatDoorG02
namespace Go.Proofs.YtcoofnhdbejnpabGreatDoor
open Go.RowKit
theorem fnCells_get : ∀ (l : List Pq.Fn) (n : Nat) (h : n < l.length) (j : Nat) (hj : j < 9), (fnCells l)[n * 9 + j]? = some ((fnCell l[n])[j]'(by simpa [fnCell] using hj))
  | [], _, h, _, _ => by simp at h
  | t :: ts, 0, _, j, hj => by
    have e : (fnCell t).length = 9 := rfl
    simp only [fnCells, List.flatMap_cons, Nat.zero_mul, Nat.zero_add, List.getElem_cons_zero]
    rw [List.getElem?_append_left (by omega), List.getElem?_eq_getElem (by omega)]
  | t :: ts, n + 1, h, j, hj => by
    have ih := fnCells_get ts n (by simpa using h) j hj
    have e : (fnCell t).length = 9 := rfl
    have e1 : (n + 1) * 9 + j = n * 9 + j + 9 := by omega
    simp only [fnCells, List.flatMap_cons, List.getElem_cons_succ] at ih ⊢
    rw [e1, List.getElem?_append_right (by omega), e]
    have a1 : n * 9 + j + 9 - 9 = n * 9 + j := by omega
    rw [a1]
    exact ih
set_option maxHeartbeats 1000000 in
theorem colsText_any {w : World} {B : Nat} {v : Value} {l : List Nat} (h : w.ownsRow B 195 1 v l.length (colCells l)) (hl : l.length ≤ 1000) (hg : ∀ c ∈ l, c < 3) :
    Calls Tryz.prog 85 #[v] w fun e w' => e = .returned (.string ⟨(Pq.colsTxt l).toArray⟩) ∧ w = w' := by
  rcases own_form h with ⟨rfl, h0⟩ | ⟨g, cap, rfl⟩
  · have HR : Hid (Pq.colsTxt l = []) := by have e : l = [] := List.eq_nil_of_length_eq_zero h0; subst e; rfl
    clear h
    go_enter Tryz.func85, Tryz.ntmps85
    go_wp2
    refine wp_loop_rounds 1 ?_; rw [rounds_succ]
    go_wp2
    go_ret
    exact ⟨by rw [HR.out]; rfl, rfl⟩
  · have H := hide h
    have HGD := hide hg
    clear h hg
    have HLEN : Hid (∀ k, k ≤ l.length → (Pq.joinTxt ((l.take k).map Pq.colTxt)).length ≤ 42 * k) := by
      intro k hk
      have := Pq.colsTxt_len (l.take k)
      rwa [List.length_take_of_le hk] at this
    go_enter Tryz.func85, Tryz.ntmps85
    go_wp2
    go_loop [3, 4] (fun t i => ∃ (k : Nat) (tk : ByteArray), k ≤ l.length ∧ i = .int .i64 k ∧ t = .string tk ∧ Hid (tk.data.toList = Pq.joinTxt ((l.take k).map Pq.colTxt)) ) (fun _ i => l.length - (intOf i).toNat)
    case atStart => exact ⟨0, ⟨#[]⟩, by omega, rfl, rfl, rfl⟩
    case round =>
      obtain ⟨k, tk, hk, rfl, rfl, HT⟩ := hrel
      have hts : tk.size ≤ 42 * k := by have := HLEN.out k hk; rw [← HT.out, size_of_list] at this; exact this
      by_cases hlt : k < l.length
      · have HS := hide (Pq.take_map_snoc Pq.colTxt l k hlt)
        have c0 : w.cell? ⟨g, k, none⟩ = some (.int .i64 (l[k] : Int)) := own_cells H.out k _ (by simp [colCells, hlt])
        have hgk : l[k] < 3 := HGD.out _ (List.getElem_mem hlt)
        have hlk := Nat.le_of_eq (Pq.colTxt_len l[k])
        by_cases h0 : k = 0
        · have hk0 : ¬ (0 : Int) < (k : Int) := by omega
          have HS2 : Hid (Pq.joinTxt ((l.take (k + 1)).map Pq.colTxt) = Pq.colTxt l[k]) := by show _ = _; rw [HS.out, if_pos h0]
          have HT2 : Hid (tk.data.toList = []) := by show _ = _; rw [HT.out, h0]; rfl
          have H0 := hide h0
          clear HS HT h0
          go_wp2_with (go_at_call 119; refine (colName_any l[k] hgk _).mono ?_; rintro e w1 ⟨rfl, rfl⟩)
          go_round
          case rel => exact ⟨k + 1, _, by omega, by go_num, rfl, by show _ = _; rw [HS2.out]; simp [HT2.out]⟩
          case measure => simp [intOf]; omega
        · have hk0 : (0 : Int) < (k : Int) := by omega
          have HS2 : Hid (Pq.joinTxt ((l.take (k + 1)).map Pq.colTxt) = Pq.joinTxt ((l.take k).map Pq.colTxt) ++ (44 :: 32 :: Pq.colTxt l[k])) := by show _ = _; rw [HS.out, if_neg h0]
          have H0 := hide h0
          clear HS h0
          go_wp2_with (go_at_call 119; refine (colName_any l[k] hgk _).mono ?_; rintro e w1 ⟨rfl, rfl⟩)
          go_round
          case rel => exact ⟨k + 1, _, by omega, by go_num, rfl, by show _ = _; rw [HS2.out, ← HT.out]; simp⟩
          case measure => simp [intOf]; omega
      · have hk' : k = l.length := by omega
        have HR : Hid (tk.data.toList = Pq.colsTxt l) := by show _ = _; rw [HT.out, hk', List.take_length]; rfl
        clear hk'
        go_wp2
        go_ret
        exact ⟨by rw [← HR.out]; exact ret_str rfl, rfl⟩

set_option maxHeartbeats 1000000 in
theorem keysText_any {w : World} {B : Nat} {v : Value} {l : List (Nat × Bool)} (h : w.ownsRow B 206 2 v l.length (keyCells l)) (hl : l.length ≤ 1000) (hg : ∀ c ∈ l, c.1 < 3) :
    Calls Tryz.prog 86 #[v] w fun e w' => e = .returned (.string ⟨(Pq.keysTxt l).toArray⟩) ∧ w = w' := by
  rcases own_form h with ⟨rfl, h0⟩ | ⟨g, cap, rfl⟩
  · have HR : Hid (Pq.keysTxt l = []) := by have e : l = [] := List.eq_nil_of_length_eq_zero h0; subst e; rfl
    clear h
    go_enter Tryz.func86, Tryz.ntmps86
    go_wp2
    refine wp_loop_rounds 1 ?_; rw [rounds_succ]
    go_wp2
    go_ret
    exact ⟨by rw [HR.out]; rfl, rfl⟩
  · have H := hide h
    have HGD := hide hg
    clear h hg
    have HLEN : Hid (∀ k, k ≤ l.length → (Pq.joinTxt ((l.take k).map Pq.keyTxt)).length ≤ 42 * k) := by
      intro k hk
      have := Pq.keysTxt_len (l.take k)
      rwa [List.length_take_of_le hk] at this
    go_enter Tryz.func86, Tryz.ntmps86
    go_wp2
    go_loop [3, 4] (fun t i => ∃ (k : Nat) (tk : ByteArray), k ≤ l.length ∧ i = .int .i64 k ∧ t = .string tk ∧ Hid (tk.data.toList = Pq.joinTxt ((l.take k).map Pq.keyTxt)) ) (fun _ i => l.length - (intOf i).toNat)
    case atStart => exact ⟨0, ⟨#[]⟩, by omega, rfl, rfl, rfl⟩
    case round =>
      obtain ⟨k, tk, hk, rfl, rfl, HT⟩ := hrel
      have hts : tk.size ≤ 42 * k := by have := HLEN.out k hk; rw [← HT.out, size_of_list] at this; exact this
      by_cases hlt : k < l.length
      · have HS := hide (Pq.take_map_snoc Pq.keyTxt l k hlt)
        have c0 := own_cells H.out (k * 2) _ (keyCells_get l k hlt).1
        have c1 := own_cells H.out (k * 2 + 1) _ (keyCells_get l k hlt).2
        have hgk : l[k].1 < 3 := HGD.out _ (List.getElem_mem hlt)
        have hlk := Nat.le_of_eq (Pq.colTxt_len l[k].1)
        by_cases h0 : k = 0
        · have hk0 : ¬ (0 : Int) < (k : Int) := by omega
          have HS2 : Hid (Pq.joinTxt ((l.take (k + 1)).map Pq.keyTxt) = Pq.keyTxt l[k]) := by show _ = _; rw [HS.out, if_pos h0]
          have HT2 : Hid (tk.data.toList = []) := by show _ = _; rw [HT.out, h0]; rfl
          have H0 := hide h0
          clear HS HT h0
          cases hd : l[k].2
          · rw [hd] at c1
            go_wp2_with (go_at_call 119; refine (colName_any l[k].1 hgk _).mono ?_; rintro e w1 ⟨rfl, rfl⟩)
            go_round
            case rel => exact ⟨k + 1, _, by omega, by go_num, rfl, by show _ = _; rw [HS2.out]; simp [HT2.out, Pq.keyTxt, hd]⟩
            case measure => simp [intOf]; omega
          · rw [hd] at c1
            go_wp2_with (go_at_call 119; refine (colName_any l[k].1 hgk _).mono ?_; rintro e w1 ⟨rfl, rfl⟩)
            go_round
            case rel => exact ⟨k + 1, _, by omega, by go_num, rfl, by show _ = _; rw [HS2.out]; simp [HT2.out, Pq.keyTxt, hd, Pq.wDesc]⟩
            case measure => simp [intOf]; omega
        · have hk0 : (0 : Int) < (k : Int) := by omega
          have HS2 : Hid (Pq.joinTxt ((l.take (k + 1)).map Pq.keyTxt) = Pq.joinTxt ((l.take k).map Pq.keyTxt) ++ (44 :: 32 :: Pq.keyTxt l[k])) := by show _ = _; rw [HS.out, if_neg h0]
          have H0 := hide h0
          clear HS h0
          cases hd : l[k].2
          · rw [hd] at c1
            go_wp2_with (go_at_call 119; refine (colName_any l[k].1 hgk _).mono ?_; rintro e w1 ⟨rfl, rfl⟩)
            go_round
            case rel => exact ⟨k + 1, _, by omega, by go_num, rfl, by show _ = _; rw [HS2.out, ← HT.out]; simp [Pq.keyTxt, hd]⟩
            case measure => simp [intOf]; omega
          · rw [hd] at c1
            go_wp2_with (go_at_call 119; refine (colName_any l[k].1 hgk _).mono ?_; rintro e w1 ⟨rfl, rfl⟩)
            go_round
            case rel => exact ⟨k + 1, _, by omega, by go_num, rfl, by show _ = _; rw [HS2.out, ← HT.out]; simp [Pq.keyTxt, hd, Pq.wDesc]⟩
            case measure => simp [intOf]; omega
      · have hk' : k = l.length := by omega
        have HR : Hid (tk.data.toList = Pq.keysTxt l) := by show _ = _; rw [HT.out, hk', List.take_length]; rfl
        clear hk'
        go_wp2
        go_ret
        exact ⟨by rw [← HR.out]; exact ret_str rfl, rfl⟩

set_option maxHeartbeats 1000000 in
theorem fnsText_any {w : World} {B : Nat} {v : Value} {l : List Pq.Fn} (h : w.ownsRow B 203 9 v l.length (fnCells l)) (hl : l.length ≤ 1000) (hg : ∀ c ∈ l, Pq.goodFn c) :
    Calls Tryz.prog 87 #[v] w fun e w' => e = .returned (.string ⟨(Pq.fnsTxt l).toArray⟩) ∧ Below w.heap.size w w' := by
  rcases own_form h with ⟨rfl, h0⟩ | ⟨g, cap, rfl⟩
  · have HR : Hid (Pq.fnsTxt l = []) := by have e : l = [] := List.eq_nil_of_length_eq_zero h0; subst e; rfl
    clear h
    go_enter Tryz.func87, Tryz.ntmps87
    go_wp2
    refine wp_loop_rounds 1 ?_; rw [rounds_succ]
    go_wp2
    go_ret
    exact ⟨by rw [HR.out]; rfl, Below.refl _ _⟩
  · have H := hide h
    have HGD := hide hg
    clear h hg
    have hgB : g < w.heap.size := by obtain ⟨cur, hcur, _⟩ := own_block H.out (c := g) rfl; exact (Array.getElem?_eq_some_iff.1 hcur).1
    have HLEN : Hid (∀ k, k ≤ l.length → (Pq.joinTxt ((l.take k).map Pq.fnTxt)).length ≤ 42 * k) := by
      intro k hk
      have := Pq.fnsTxt_len (l.take k)
      rwa [List.length_take_of_le hk] at this
    go_enter Tryz.func87, Tryz.ntmps87
    go_wp2
    go_loopw [3, 4] (fun t i wr => ∃ (k : Nat) (tk : ByteArray), k ≤ l.length ∧ i = .int .i64 k ∧ t = .string tk ∧ Hid (tk.data.toList = Pq.joinTxt ((l.take k).map Pq.fnTxt)) ∧ Below w.heap.size w wr) (fun _ i _ => l.length - (intOf i).toNat)
    case atStart => exact ⟨0, ⟨#[]⟩, by omega, rfl, rfl, rfl, Below.refl _ _⟩
    case round =>
      obtain ⟨k, tk, hk, rfl, rfl, HT, hbel⟩ := hrel
      have hts : tk.size ≤ 42 * k := by have := HLEN.out k hk; rw [← HT.out, size_of_list] at this; exact this
      by_cases hlt : k < l.length
      · have HS := hide (Pq.take_map_snoc Pq.fnTxt l k hlt)
        have c0 := (hbel.cell (p := ⟨g, k * 9, none⟩) hgB).trans (own_cells H.out (k * 9) _ (fnCells_get l k hlt 0 (by omega)))
        have c1 := (hbel.cell (p := ⟨g, k * 9 + 1, none⟩) hgB).trans (own_cells H.out (k * 9 + 1) _ (fnCells_get l k hlt 1 (by omega)))
        have c2 := (hbel.cell (p := ⟨g, k * 9 + 2, none⟩) hgB).trans (own_cells H.out (k * 9 + 2) _ (fnCells_get l k hlt 2 (by omega)))
        have c3 := (hbel.cell (p := ⟨g, k * 9 + 3, none⟩) hgB).trans (own_cells H.out (k * 9 + 3) _ (fnCells_get l k hlt 3 (by omega)))
        have c4 := (hbel.cell (p := ⟨g, k * 9 + 4, none⟩) hgB).trans (own_cells H.out (k * 9 + 4) _ (fnCells_get l k hlt 4 (by omega)))
        have c5 := (hbel.cell (p := ⟨g, k * 9 + 5, none⟩) hgB).trans (own_cells H.out (k * 9 + 5) _ (fnCells_get l k hlt 5 (by omega)))
        have c6 := (hbel.cell (p := ⟨g, k * 9 + 6, none⟩) hgB).trans (own_cells H.out (k * 9 + 6) _ (fnCells_get l k hlt 6 (by omega)))
        have c7 := (hbel.cell (p := ⟨g, k * 9 + 7, none⟩) hgB).trans (own_cells H.out (k * 9 + 7) _ (fnCells_get l k hlt 7 (by omega)))
        have c8 := (hbel.cell (p := ⟨g, k * 9 + 8, none⟩) hgB).trans (own_cells H.out (k * 9 + 8) _ (fnCells_get l k hlt 8 (by omega)))
        have HG := hide (HGD.out _ (List.getElem_mem hlt))
        have hlk := Pq.fnTxt_len l[k]
        simp only [fnCell, List.getElem_cons_zero, List.getElem_cons_succ] at c0 c1 c2 c3 c4 c5 c6 c7 c8
        by_cases h0 : k = 0
        · have hk0 : ¬ (0 : Int) < (k : Int) := by omega
          have HS2 : Hid (Pq.joinTxt ((l.take (k + 1)).map Pq.fnTxt) = Pq.fnTxt l[k]) := by show _ = _; rw [HS.out, if_pos h0]
          have HT2 : Hid (tk.data.toList = []) := by show _ = _; rw [HT.out, h0]; rfl
          have H0 := hide h0
          clear HS HT h0
          go_wp2_with (go_at_call 120; refine (fnText_any l[k] HG.out _).mono ?_; rintro e w1 ⟨rfl, b1⟩; have B2 := hbel.trans (b1.mono hbel.size); clear b1)
          go_roundw
          case rel => exact ⟨k + 1, _, by omega, by go_num, rfl, by show _ = _; rw [HS2.out]; simp [HT2.out], B2⟩
          case measure => simp [intOf]; omega
        · have hk0 : (0 : Int) < (k : Int) := by omega
          have HS2 : Hid (Pq.joinTxt ((l.take (k + 1)).map Pq.fnTxt) = Pq.joinTxt ((l.take k).map Pq.fnTxt) ++ (44 :: 32 :: Pq.fnTxt l[k])) := by show _ = _; rw [HS.out, if_neg h0]
          have H0 := hide h0
          clear HS h0
          go_wp2_with (go_at_call 120; refine (fnText_any l[k] HG.out _).mono ?_; rintro e w1 ⟨rfl, b1⟩; have B2 := hbel.trans (b1.mono hbel.size); clear b1)
          go_roundw
          case rel => exact ⟨k + 1, _, by omega, by go_num, rfl, by show _ = _; rw [HS2.out, ← HT.out]; simp, B2⟩
          case measure => simp [intOf]; omega
      · have hk' : k = l.length := by omega
        have HR : Hid (tk.data.toList = Pq.fnsTxt l) := by show _ = _; rw [HT.out, hk', List.take_length]; rfl
        clear hk'
        go_wp2
        go_ret
        exact ⟨by rw [← HR.out]; exact ret_str rfl, hbel⟩

end Go.Proofs.YtcoofnhdbejnpabGreatDoor

/- Package queries: the plain form. -/
namespace Go.Proofs.YtcoofnhdbejnpabGreatDoor
open Go.RowKit
/-- what the numbers of a query are -/
structure GoodPS (s : Pq.PS) : Prop where
  by' : ∀ c ∈ s.by', c < 3
  keys : ∀ c ∈ s.keys, c.1 < 3
  funcs : ∀ c ∈ s.funcs, Pq.goodFn c
  top : Pq.goodNum s.top
  frm : Pq.goodNum s.frm
  lby : s.by'.length ≤ 301
  lkey : s.keys.length ≤ 301
  lfun : s.funcs.length ≤ 301
set_option maxHeartbeats 4000000 in
theorem plain_any {w : World} {B : Nat} {vb vk vf : Value} {s : Pq.PS} (h1 : w.ownsRow B 195 1 vb s.by'.length (colCells s.by')) (h2 : w.ownsRow B 206 2 vk s.keys.length (keyCells s.keys)) (h3 : w.ownsRow B 203 9 vf s.funcs.length (fnCells s.funcs)) (hg : GoodPS s) :
    Calls Tryz.prog 66 #[.agg #[vb, vk, vf, .bool s.hasTop, .int .i64 s.top, .int .i64 s.frm]] w fun e w' => e = .returned (.string ⟨(Pq.plainTxt s).toArray⟩) ∧ Below w.heap.size w w' := by
  obtain ⟨a1, p1, rfl⟩ := own_slice h1
  obtain ⟨a2, p2, rfl⟩ := own_slice h2
  obtain ⟨a3, p3, rfl⟩ := own_slice h3
  have HB := hide h1
  have HK := hide h2
  have HFN := hide h3
  have HG1 := hide hg.by'
  have HG2 := hide hg.keys
  have HG3 := hide hg.funcs
  have lb := hg.lby
  have lk := hg.lkey
  have lf := hg.lfun
  obtain ⟨t0, t1⟩ := hg.top
  obtain ⟨f0, f1⟩ := hg.frm
  clear h1 h2 h3 hg
  have e1 := Pq.colsTxt_len s.by'
  have e2 := Pq.keysTxt_len s.keys
  have e3 := Pq.fnsTxt_len s.funcs
  have e4 := Pq.numTxt_len s.top
  have e5 := Pq.numTxt_len s.frm
  have HSZ : Hid ((w.alloc (.cells #[.slice a1 s.by'.length p1, .slice a2 s.keys.length p2, .slice a3 s.funcs.length p3, .bool s.hasTop, .int .i64 s.top, .int .i64 s.frm] 89)).heap.size = w.heap.size + 1) := by show _ = _; simp
  by_cases hb : s.by'.length = 0
  · have hb' : ¬ (0 : Int) < (s.by'.length : Int) := by omega
    have HBY : Hid (Pq.byTxt s.by' = []) := by show _ = _; simp only [Pq.byTxt, if_pos hb]
    have HB0 := hide hb
    clear hb
    go_enter Tryz.func66, Tryz.ntmps66
    go_wp2_with fail
    refine (keysText_any (HK.out.alloc _) (by omega) HG2.out).mono ?_
    rintro e w1 ⟨rfl, rfl⟩
    go_wp2_with fail
    refine (fnsText_any (HFN.out.alloc _) (by omega) HG3.out).mono ?_
    rintro e w2 ⟨rfl, b2⟩
    have hsz := HSZ.out
    rw [hsz] at b2
    have L2 := hide ((b2.block w.heap.size (Nat.lt_succ_self _)).trans (heap_alloc_new w (.cells #[.slice a1 s.by'.length p1, .slice a2 s.keys.length p2, .slice a3 s.funcs.length p3, .bool s.hasTop, .int .i64 s.top, .int .i64 s.frm] 89)))
    have B2 : Below w.heap.size w w2 := ((Below.refl _ _).alloc (Nat.le_refl _) _).trans (b2.mono (Nat.le_succ _))
    clear b2 hsz
    have x3 := cell_of_heap L2.out 3
    have x4 := cell_of_heap L2.out 4
    have x5 := cell_of_heap L2.out 5
    have HPT : Hid (Pq.plainTxt s = [] ++ (Pq.wOrder ++ 32 :: Pq.keysTxt s.keys) ++ (32 :: Pq.wShow ++ 32 :: Pq.fnsTxt s.funcs) ++ Pq.topTxt s) := by show _ = _; unfold Pq.plainTxt; rw [HBY.out]
    cases ht : s.hasTop
    · by_cases hf : 0 < s.frm
      · have HTT : Hid (Pq.topTxt s = [] ++ (32 :: Pq.wFrom ++ 32 :: Pq.numTxt s.frm)) := by show _ = _; simp [Pq.topTxt, ht, hf]
        go_wp2_with fail
        refine (itoa_any s.frm f0 f1 _).mono ?_; rintro e w3 ⟨rfl, rfl⟩
        go_wp2
        go_ret
        rw [HPT.out, HTT.out]
        exact ⟨ret_str (by simp [Pq.wOrder, Pq.wShow, Pq.wFrom]), B2⟩
      · have HTT : Hid (Pq.topTxt s = [] ++ []) := by show _ = _; simp [Pq.topTxt, ht, hf]
        go_wp2
        go_ret
        rw [HPT.out, HTT.out]
        exact ⟨ret_str (by simp [Pq.wOrder, Pq.wShow]), B2⟩
    · by_cases hf : 0 < s.frm
      · have HTT : Hid (Pq.topTxt s = (32 :: Pq.wTop ++ 32 :: Pq.numTxt s.top) ++ (32 :: Pq.wFrom ++ 32 :: Pq.numTxt s.frm)) := by show _ = _; simp [Pq.topTxt, ht, hf]
        go_wp2_with fail
        refine (itoa_any s.top t0 t1 _).mono ?_; rintro e w3 ⟨rfl, rfl⟩
        go_wp2_with fail
        refine (itoa_any s.frm f0 f1 _).mono ?_; rintro e w3 ⟨rfl, rfl⟩
        go_wp2
        go_ret
        rw [HPT.out, HTT.out]
        exact ⟨ret_str (by simp [Pq.wOrder, Pq.wShow, Pq.wTop, Pq.wFrom]), B2⟩
      · have HTT : Hid (Pq.topTxt s = (32 :: Pq.wTop ++ 32 :: Pq.numTxt s.top) ++ []) := by show _ = _; simp [Pq.topTxt, ht, hf]
        go_wp2_with fail
        refine (itoa_any s.top t0 t1 _).mono ?_; rintro e w3 ⟨rfl, rfl⟩
        go_wp2
        go_ret
        rw [HPT.out, HTT.out]
        exact ⟨ret_str (by simp [Pq.wOrder, Pq.wShow, Pq.wTop]), B2⟩
  · have hb' : (0 : Int) < (s.by'.length : Int) := by omega
    have HBY : Hid (Pq.byTxt s.by' = (Pq.wBy ++ 32 :: Pq.colsTxt s.by' ++ [32])) := by show _ = _; simp only [Pq.byTxt, if_neg hb]
    have HB0 := hide hb
    clear hb
    go_enter Tryz.func66, Tryz.ntmps66
    go_wp2_with fail
    refine (colsText_any (HB.out.alloc _) (by omega) HG1.out).mono ?_
    rintro e w1 ⟨rfl, rfl⟩
    go_wp2_with fail
    refine (keysText_any (HK.out.alloc _) (by omega) HG2.out).mono ?_
    rintro e w1 ⟨rfl, rfl⟩
    go_wp2_with fail
    refine (fnsText_any (HFN.out.alloc _) (by omega) HG3.out).mono ?_
    rintro e w2 ⟨rfl, b2⟩
    have hsz := HSZ.out
    rw [hsz] at b2
    have L2 := hide ((b2.block w.heap.size (Nat.lt_succ_self _)).trans (heap_alloc_new w (.cells #[.slice a1 s.by'.length p1, .slice a2 s.keys.length p2, .slice a3 s.funcs.length p3, .bool s.hasTop, .int .i64 s.top, .int .i64 s.frm] 89)))
    have B2 : Below w.heap.size w w2 := ((Below.refl _ _).alloc (Nat.le_refl _) _).trans (b2.mono (Nat.le_succ _))
    clear b2 hsz
    have x3 := cell_of_heap L2.out 3
    have x4 := cell_of_heap L2.out 4
    have x5 := cell_of_heap L2.out 5
    have HPT : Hid (Pq.plainTxt s = (Pq.wBy ++ 32 :: Pq.colsTxt s.by' ++ [32]) ++ (Pq.wOrder ++ 32 :: Pq.keysTxt s.keys) ++ (32 :: Pq.wShow ++ 32 :: Pq.fnsTxt s.funcs) ++ Pq.topTxt s) := by show _ = _; unfold Pq.plainTxt; rw [HBY.out]
    cases ht : s.hasTop
    · by_cases hf : 0 < s.frm
      · have HTT : Hid (Pq.topTxt s = [] ++ (32 :: Pq.wFrom ++ 32 :: Pq.numTxt s.frm)) := by show _ = _; simp [Pq.topTxt, ht, hf]
        go_wp2_with fail
        refine (itoa_any s.frm f0 f1 _).mono ?_; rintro e w3 ⟨rfl, rfl⟩
        go_wp2
        go_ret
        rw [HPT.out, HTT.out]
        exact ⟨ret_str (by simp [Pq.wOrder, Pq.wShow, Pq.wFrom, Pq.wBy]), B2⟩
      · have HTT : Hid (Pq.topTxt s = [] ++ []) := by show _ = _; simp [Pq.topTxt, ht, hf]
        go_wp2
        go_ret
        rw [HPT.out, HTT.out]
        exact ⟨ret_str (by simp [Pq.wOrder, Pq.wShow, Pq.wBy]), B2⟩
    · by_cases hf : 0 < s.frm
      · have HTT : Hid (Pq.topTxt s = (32 :: Pq.wTop ++ 32 :: Pq.numTxt s.top) ++ (32 :: Pq.wFrom ++ 32 :: Pq.numTxt s.frm)) := by show _ = _; simp [Pq.topTxt, ht, hf]
        go_wp2_with fail
        refine (itoa_any s.top t0 t1 _).mono ?_; rintro e w3 ⟨rfl, rfl⟩
        go_wp2_with fail
        refine (itoa_any s.frm f0 f1 _).mono ?_; rintro e w3 ⟨rfl, rfl⟩
        go_wp2
        go_ret
        rw [HPT.out, HTT.out]
        exact ⟨ret_str (by simp [Pq.wOrder, Pq.wShow, Pq.wTop, Pq.wFrom, Pq.wBy]), B2⟩
      · have HTT : Hid (Pq.topTxt s = (32 :: Pq.wTop ++ 32 :: Pq.numTxt s.top) ++ []) := by show _ = _; simp [Pq.topTxt, ht, hf]
        go_wp2_with fail
        refine (itoa_any s.top t0 t1 _).mono ?_; rintro e w3 ⟨rfl, rfl⟩
        go_wp2
        go_ret
        rw [HPT.out, HTT.out]
        exact ⟨ret_str (by simp [Pq.wOrder, Pq.wShow, Pq.wTop, Pq.wBy]), B2⟩
end Go.Proofs.YtcoofnhdbejnpabGreatDoor

/- Package panes: Plan. -/
namespace Go.Proofs.YtcoofnhdbejnpabGreatDoor
open Go.RowKit
/-- what Plan answers -/
def planTxt (l : Pq.Bytes) : Pq.Bytes := if Pq.readE l = 0 then Pq.plainTxt (Pq.endPS l) else []
def planP (l : Pq.Bytes) : Int := if Pq.readE l = 0 then 0 else Pq.readP l
set_option maxHeartbeats 1000000 in
theorem plan_any (s : ByteArray) (w : World) (hs : s.size ≤ maxLen) :
    Calls Tryz.prog 40 #[.string s] w fun e w' => e = .returned (.tuple #[.string ⟨(planTxt s.data.toList).toArray⟩, .int .i64 (Pq.readE s.data.toList), .int .i64 (planP s.data.toList)]) ∧ Below w.heap.size w w' := by
  have HT := hide (Pq.lexFrom_good s.data.toList 0)
  go_enter Tryz.func40, Tryz.ntmps40
  go_wp2_with fail
  refine (read_any s _ hs).mono ?_
  rintro e w1 ⟨b1, h1⟩
  rcases h1 with ⟨hne, rfl⟩ | ⟨h0, vb, vk, vf, rfl, o1, o2, o3, l1, l2, l3⟩
  · have HP : Hid (planTxt s.data.toList = [] ∧ planP s.data.toList = Pq.readP s.data.toList) := by show _ ∧ _; simp [planTxt, planP, hne]
    generalize hee : Pq.readE s.data.toList = ee at *
    generalize hpp : Pq.readP s.data.toList = pp at *
    have HEE := hide hee
    clear hee hpp
    have hne' : (ee != 0) = true := by simp [hne]
    clear hne
    go_wp2
    go_ret3
    rw [HP.out.1, HP.out.2, HEE.out]
    exact ⟨rfl, b1.alloc b1.size _⟩
  · have HP : Hid (planTxt s.data.toList = Pq.plainTxt (Pq.endPS s.data.toList) ∧ planP s.data.toList = 0) := by show _ ∧ _; simp [planTxt, planP, h0]
    have HG := hide (Pq.end_good (toks := Pq.toksOf s.data.toList) HT.out s.data.toList.length)
    have HGD : Hid (GoodPS (Pq.endPS s.data.toList)) := ⟨HG.out.1, HG.out.2.1, HG.out.2.2.1, HG.out.2.2.2.1, HG.out.2.2.2.2, l1, l2, l3⟩
    have H0 := hide h0
    clear HG h0 l1 l2 l3 HT
    obtain ⟨a1, p1, rfl⟩ := own_slice o1
    obtain ⟨a2, p2, rfl⟩ := own_slice o2
    obtain ⟨a3, p3, rfl⟩ := own_slice o3
    have O1 := hide o1
    have O2 := hide o2
    have O3 := hide o3
    clear o1 o2 o3
    go_wp2_with fail
    refine (plain_any (O1.out.alloc _) (O2.out.alloc _) (O3.out.alloc _) HGD.out).mono ?_
    rintro e w2 ⟨rfl, b2⟩
    have B2 : Below w.heap.size w w2 := (b1.alloc b1.size _).trans (b2.mono (by have := b1.size; simp; omega))
    clear b2
    go_wp2
    go_ret3
    rw [HP.out.1, HP.out.2, H0.out]
    exact ⟨rfl, B2⟩
end Go.Proofs.YtcoofnhdbejnpabGreatDoor

/- Package panes: New: a view of an empty table, or Plan's error and its place. -/
namespace Go.Proofs.YtcoofnhdbejnpabGreatDoor
open Go.RowKit
/-- the cells of a view just made -/
def xView (vb vk vf : Value) (s : Pq.PS) (vt : Value) : Array Value := #[vb, vk, vf, .bool s.hasTop, .int .i64 s.top, .int .i64 s.frm, vt]
def NewPost (l : Pq.Bytes) (w : World) (e : Ending) (w' : World) : Prop :=
  Below w.heap.size w w' ∧
  ((Pq.readE l ≠ 0 ∧ e = .returned (.tuple #[.pointer none, .int .i64 (Pq.readE l), .int .i64 (Pq.readP l)])) ∨
   (Pq.readE l = 0 ∧ ∃ g vb vk vf, w.heap.size ≤ g ∧ g < w'.heap.size ∧ e = .returned (.tuple #[.pointer (some ⟨g, 0, none⟩), .int .i64 0, .int .i64 0]) ∧ w'.heap[g]? = some (.cells (xView vb vk vf (Pq.endPS l) (.slice none 0 0)) 91 (0, 0)) ∧
    w'.ownsRow w.heap.size 195 1 vb (Pq.endPS l).by'.length (colCells (Pq.endPS l).by') ∧ w'.ownsRow w.heap.size 206 2 vk (Pq.endPS l).keys.length (keyCells (Pq.endPS l).keys) ∧ w'.ownsRow w.heap.size 203 9 vf (Pq.endPS l).funcs.length (fnCells (Pq.endPS l).funcs) ∧
    (Pq.endPS l).by'.length ≤ 301 ∧ (Pq.endPS l).keys.length ≤ 301 ∧ (Pq.endPS l).funcs.length ≤ 301))
set_option maxHeartbeats 1000000 in
theorem new_any (s : ByteArray) (w : World) (hs : s.size ≤ maxLen) :
    Calls Tryz.prog 30 #[.string s] w fun e w' => NewPost s.data.toList w e w' := by
  go_enter Tryz.func30, Tryz.ntmps30
  go_wp2_with fail
  refine (read_any s _ hs).mono ?_
  rintro e w1 ⟨b1, h1⟩
  rcases h1 with ⟨hne, rfl⟩ | ⟨h0, vb, vk, vf, rfl, o1, o2, o3, l1, l2, l3⟩
  · have HNE := hide hne
    generalize hee : Pq.readE s.data.toList = ee at *
    generalize hpp : Pq.readP s.data.toList = pp at *
    have HEE := hide hee
    have HPP := hide hpp
    clear hee hpp
    have hne' : (ee != 0) = true := by simp [hne]
    clear hne
    go_wp2
    go_ret3
    refine ⟨b1.alloc b1.size _, .inl ?_⟩
    rw [HEE.out, HPP.out]
    exact ⟨HNE.out, rfl⟩
  · have H0 := hide h0
    obtain ⟨a1, p1, rfl⟩ := own_slice o1
    obtain ⟨a2, p2, rfl⟩ := own_slice o2
    obtain ⟨a3, p3, rfl⟩ := own_slice o3
    have HL := hide (And.intro l1 (And.intro l2 l3))
    have O1 := hide o1
    have O2 := hide o2
    have O3 := hide o3
    clear o1 o2 o3 h0 l1 l2 l3
    go_wp2
    go_ret3
    have hb := b1.size
    exact ⟨(b1.alloc b1.size _).alloc (by simp; omega) _, .inr ⟨H0.out, w1.heap.size + 1, _, _, _, by omega, by simp, rfl, by rw [show w1.heap.size + 1 = (w1.alloc (.cells #[.slice a1 (Pq.endPS s.data.toList).by'.length p1, .slice a2 (Pq.endPS s.data.toList).keys.length p2, .slice a3 (Pq.endPS s.data.toList).funcs.length p3, .bool (Pq.endPS s.data.toList).hasTop, .int .i64 (Pq.endPS s.data.toList).top, .int .i64 (Pq.endPS s.data.toList).frm] 89)).heap.size from by simp]; exact heap_alloc_new _ _, (O1.out.alloc _).alloc _, (O2.out.alloc _).alloc _, (O3.out.alloc _).alloc _, HL.out⟩⟩
end Go.Proofs.YtcoofnhdbejnpabGreatDoor

