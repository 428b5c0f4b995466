/- Package queries: the three lists as texts. -/
import Derived.Test.YtcoofnhdbejnpaaDoorRc
import Derived.Test.YtcoofnhdbejnpaaDoorPlainA
import Derived.Test.YtcoofnhdbejnpaaDoorQp
namespace Go.Proofs.YtcoofnhdbejnpaaDoor
open Go.RowKit
theorem fnCells_get : ∀ (l : List Pq.Fn) (n : Nat) (h : n < l.length) (j : Nat) (hj : j < 9), (fnCells l)[n * 9 + j]? = some ((fnCell l[n])[j]'(by simpa [fnCell] using hj))
  | [], _, h, _, _ => by simp at h
  | t :: ts, 0, _, j, hj => by
    have e : (fnCell t).length = 9 := rfl
    simp only [fnCells, List.flatMap_cons, Nat.zero_mul, Nat.zero_add, List.getElem_cons_zero]
    rw [List.getElem?_append_left (by omega), List.getElem?_eq_getElem (by omega)]
  | t :: ts, n + 1, h, j, hj => by
    have ih := fnCells_get ts n (by simpa using h) j hj
    have e : (fnCell t).length = 9 := rfl
    have e1 : (n + 1) * 9 + j = n * 9 + j + 9 := by omega
    simp only [fnCells, List.flatMap_cons, List.getElem_cons_succ] at ih ⊢
    rw [e1, List.getElem?_append_right (by omega), e]
    have a1 : n * 9 + j + 9 - 9 = n * 9 + j := by omega
    rw [a1]
    exact ih
set_option maxHeartbeats 1000000 in
theorem colsText_any {w : World} {B : Nat} {v : Value} {l : List Nat} (h : w.ownsRow B 107 1 v l.length (colCells l)) (hl : l.length ≤ 1000) (hg : ∀ c ∈ l, c < 3) :
    Calls Tryd.prog 30 #[v] w fun e w' => e = .returned (.string ⟨(Pq.colsTxt l).toArray⟩) ∧ w = w' := by
  rcases own_form h with ⟨rfl, h0⟩ | ⟨g, cap, rfl⟩
  · have HR : Hid (Pq.colsTxt l = []) := by have e : l = [] := List.eq_nil_of_length_eq_zero h0; subst e; rfl
    clear h
    go_enter Tryd.func30, Tryd.ntmps30
    go_wp2
    refine wp_loop_rounds 1 ?_; rw [rounds_succ]
    go_wp2
    go_ret
    exact ⟨by rw [HR.out]; rfl, rfl⟩
  · have H := hide h
    have HGD := hide hg
    clear h hg
    have HLEN : Hid (∀ k, k ≤ l.length → (Pq.joinTxt ((l.take k).map Pq.colTxt)).length ≤ 42 * k) := by
      intro k hk
      have := Pq.colsTxt_len (l.take k)
      rwa [List.length_take_of_le hk] at this
    go_enter Tryd.func30, Tryd.ntmps30
    go_wp2
    go_loop [3, 4] (fun t i => ∃ (k : Nat) (tk : ByteArray), k ≤ l.length ∧ i = .int .i64 k ∧ t = .string tk ∧ Hid (tk.data.toList = Pq.joinTxt ((l.take k).map Pq.colTxt)) ) (fun _ i => l.length - (intOf i).toNat)
    case atStart => exact ⟨0, ⟨#[]⟩, by omega, rfl, rfl, rfl⟩
    case round =>
      obtain ⟨k, tk, hk, rfl, rfl, HT⟩ := hrel
      have hts : tk.size ≤ 42 * k := by have := HLEN.out k hk; rw [← HT.out, size_of_list] at this; exact this
      by_cases hlt : k < l.length
      · have HS := hide (Pq.take_map_snoc Pq.colTxt l k hlt)
        have c0 : w.cell? ⟨g, k, none⟩ = some (.int .i64 (l[k] : Int)) := own_cells H.out k _ (by simp [colCells, hlt])
        have hgk : l[k] < 3 := HGD.out _ (List.getElem_mem hlt)
        have hlk := Nat.le_of_eq (Pq.colTxt_len l[k])
        by_cases h0 : k = 0
        · have hk0 : ¬ (0 : Int) < (k : Int) := by omega
          have HS2 : Hid (Pq.joinTxt ((l.take (k + 1)).map Pq.colTxt) = Pq.colTxt l[k]) := by show _ = _; rw [HS.out, if_pos h0]
          have HT2 : Hid (tk.data.toList = []) := by show _ = _; rw [HT.out, h0]; rfl
          have H0 := hide h0
          clear HS HT h0
          go_wp2_with (go_at_call 49; refine (colName_any l[k] hgk _).mono ?_; rintro e w1 ⟨rfl, rfl⟩)
          go_round
          case rel => exact ⟨k + 1, _, by omega, by go_num, rfl, by show _ = _; rw [HS2.out]; simp [HT2.out]⟩
          case measure => simp [intOf]; omega
        · have hk0 : (0 : Int) < (k : Int) := by omega
          have HS2 : Hid (Pq.joinTxt ((l.take (k + 1)).map Pq.colTxt) = Pq.joinTxt ((l.take k).map Pq.colTxt) ++ (44 :: 32 :: Pq.colTxt l[k])) := by show _ = _; rw [HS.out, if_neg h0]
          have H0 := hide h0
          clear HS h0
          go_wp2_with (go_at_call 49; refine (colName_any l[k] hgk _).mono ?_; rintro e w1 ⟨rfl, rfl⟩)
          go_round
          case rel => exact ⟨k + 1, _, by omega, by go_num, rfl, by show _ = _; rw [HS2.out, ← HT.out]; simp⟩
          case measure => simp [intOf]; omega
      · have hk' : k = l.length := by omega
        have HR : Hid (tk.data.toList = Pq.colsTxt l) := by show _ = _; rw [HT.out, hk', List.take_length]; rfl
        clear hk'
        go_wp2
        go_ret
        exact ⟨by rw [← HR.out]; exact ret_str rfl, rfl⟩

set_option maxHeartbeats 1000000 in
theorem keysText_any {w : World} {B : Nat} {v : Value} {l : List (Nat × Bool)} (h : w.ownsRow B 109 2 v l.length (keyCells l)) (hl : l.length ≤ 1000) (hg : ∀ c ∈ l, c.1 < 3) :
    Calls Tryd.prog 31 #[v] w fun e w' => e = .returned (.string ⟨(Pq.keysTxt l).toArray⟩) ∧ w = w' := by
  rcases own_form h with ⟨rfl, h0⟩ | ⟨g, cap, rfl⟩
  · have HR : Hid (Pq.keysTxt l = []) := by have e : l = [] := List.eq_nil_of_length_eq_zero h0; subst e; rfl
    clear h
    go_enter Tryd.func31, Tryd.ntmps31
    go_wp2
    refine wp_loop_rounds 1 ?_; rw [rounds_succ]
    go_wp2
    go_ret
    exact ⟨by rw [HR.out]; rfl, rfl⟩
  · have H := hide h
    have HGD := hide hg
    clear h hg
    have HLEN : Hid (∀ k, k ≤ l.length → (Pq.joinTxt ((l.take k).map Pq.keyTxt)).length ≤ 42 * k) := by
      intro k hk
      have := Pq.keysTxt_len (l.take k)
      rwa [List.length_take_of_le hk] at this
    go_enter Tryd.func31, Tryd.ntmps31
    go_wp2
    go_loop [3, 4] (fun t i => ∃ (k : Nat) (tk : ByteArray), k ≤ l.length ∧ i = .int .i64 k ∧ t = .string tk ∧ Hid (tk.data.toList = Pq.joinTxt ((l.take k).map Pq.keyTxt)) ) (fun _ i => l.length - (intOf i).toNat)
    case atStart => exact ⟨0, ⟨#[]⟩, by omega, rfl, rfl, rfl⟩
    case round =>
      obtain ⟨k, tk, hk, rfl, rfl, HT⟩ := hrel
      have hts : tk.size ≤ 42 * k := by have := HLEN.out k hk; rw [← HT.out, size_of_list] at this; exact this
      by_cases hlt : k < l.length
      · have HS := hide (Pq.take_map_snoc Pq.keyTxt l k hlt)
        have c0 := own_cells H.out (k * 2) _ (keyCells_get l k hlt).1
        have c1 := own_cells H.out (k * 2 + 1) _ (keyCells_get l k hlt).2
        have hgk : l[k].1 < 3 := HGD.out _ (List.getElem_mem hlt)
        have hlk := Nat.le_of_eq (Pq.colTxt_len l[k].1)
        by_cases h0 : k = 0
        · have hk0 : ¬ (0 : Int) < (k : Int) := by omega
          have HS2 : Hid (Pq.joinTxt ((l.take (k + 1)).map Pq.keyTxt) = Pq.keyTxt l[k]) := by show _ = _; rw [HS.out, if_pos h0]
          have HT2 : Hid (tk.data.toList = []) := by show _ = _; rw [HT.out, h0]; rfl
          have H0 := hide h0
          clear HS HT h0
          cases hd : l[k].2
          · rw [hd] at c1
            go_wp2_with (go_at_call 49; refine (colName_any l[k].1 hgk _).mono ?_; rintro e w1 ⟨rfl, rfl⟩)
            go_round
            case rel => exact ⟨k + 1, _, by omega, by go_num, rfl, by show _ = _; rw [HS2.out]; simp [HT2.out, Pq.keyTxt, hd]⟩
            case measure => simp [intOf]; omega
          · rw [hd] at c1
            go_wp2_with (go_at_call 49; refine (colName_any l[k].1 hgk _).mono ?_; rintro e w1 ⟨rfl, rfl⟩)
            go_round
            case rel => exact ⟨k + 1, _, by omega, by go_num, rfl, by show _ = _; rw [HS2.out]; simp [HT2.out, Pq.keyTxt, hd, Pq.wDesc]⟩
            case measure => simp [intOf]; omega
        · have hk0 : (0 : Int) < (k : Int) := by omega
          have HS2 : Hid (Pq.joinTxt ((l.take (k + 1)).map Pq.keyTxt) = Pq.joinTxt ((l.take k).map Pq.keyTxt) ++ (44 :: 32 :: Pq.keyTxt l[k])) := by show _ = _; rw [HS.out, if_neg h0]
          have H0 := hide h0
          clear HS h0
          cases hd : l[k].2
          · rw [hd] at c1
            go_wp2_with (go_at_call 49; refine (colName_any l[k].1 hgk _).mono ?_; rintro e w1 ⟨rfl, rfl⟩)
            go_round
            case rel => exact ⟨k + 1, _, by omega, by go_num, rfl, by show _ = _; rw [HS2.out, ← HT.out]; simp [Pq.keyTxt, hd]⟩
            case measure => simp [intOf]; omega
          · rw [hd] at c1
            go_wp2_with (go_at_call 49; refine (colName_any l[k].1 hgk _).mono ?_; rintro e w1 ⟨rfl, rfl⟩)
            go_round
            case rel => exact ⟨k + 1, _, by omega, by go_num, rfl, by show _ = _; rw [HS2.out, ← HT.out]; simp [Pq.keyTxt, hd, Pq.wDesc]⟩
            case measure => simp [intOf]; omega
      · have hk' : k = l.length := by omega
        have HR : Hid (tk.data.toList = Pq.keysTxt l) := by show _ = _; rw [HT.out, hk', List.take_length]; rfl
        clear hk'
        go_wp2
        go_ret
        exact ⟨by rw [← HR.out]; exact ret_str rfl, rfl⟩

set_option maxHeartbeats 1000000 in
theorem fnsText_any {w : World} {B : Nat} {v : Value} {l : List Pq.Fn} (h : w.ownsRow B 118 9 v l.length (fnCells l)) (hl : l.length ≤ 1000) (hg : ∀ c ∈ l, Pq.goodFn c) :
    Calls Tryd.prog 32 #[v] w fun e w' => e = .returned (.string ⟨(Pq.fnsTxt l).toArray⟩) ∧ Below w.heap.size w w' := by
  rcases own_form h with ⟨rfl, h0⟩ | ⟨g, cap, rfl⟩
  · have HR : Hid (Pq.fnsTxt l = []) := by have e : l = [] := List.eq_nil_of_length_eq_zero h0; subst e; rfl
    clear h
    go_enter Tryd.func32, Tryd.ntmps32
    go_wp2
    refine wp_loop_rounds 1 ?_; rw [rounds_succ]
    go_wp2
    go_ret
    exact ⟨by rw [HR.out]; rfl, Below.refl _ _⟩
  · have H := hide h
    have HGD := hide hg
    clear h hg
    have hgB : g < w.heap.size := by obtain ⟨cur, hcur, _⟩ := own_block H.out (c := g) rfl; exact (Array.getElem?_eq_some_iff.1 hcur).1
    have HLEN : Hid (∀ k, k ≤ l.length → (Pq.joinTxt ((l.take k).map Pq.fnTxt)).length ≤ 42 * k) := by
      intro k hk
      have := Pq.fnsTxt_len (l.take k)
      rwa [List.length_take_of_le hk] at this
    go_enter Tryd.func32, Tryd.ntmps32
    go_wp2
    go_loopw [3, 4] (fun t i wr => ∃ (k : Nat) (tk : ByteArray), k ≤ l.length ∧ i = .int .i64 k ∧ t = .string tk ∧ Hid (tk.data.toList = Pq.joinTxt ((l.take k).map Pq.fnTxt)) ∧ Below w.heap.size w wr) (fun _ i _ => l.length - (intOf i).toNat)
    case atStart => exact ⟨0, ⟨#[]⟩, by omega, rfl, rfl, rfl, Below.refl _ _⟩
    case round =>
      obtain ⟨k, tk, hk, rfl, rfl, HT, hbel⟩ := hrel
      have hts : tk.size ≤ 42 * k := by have := HLEN.out k hk; rw [← HT.out, size_of_list] at this; exact this
      by_cases hlt : k < l.length
      · have HS := hide (Pq.take_map_snoc Pq.fnTxt l k hlt)
        have c0 := (hbel.cell (p := ⟨g, k * 9, none⟩) hgB).trans (own_cells H.out (k * 9) _ (fnCells_get l k hlt 0 (by omega)))
        have c1 := (hbel.cell (p := ⟨g, k * 9 + 1, none⟩) hgB).trans (own_cells H.out (k * 9 + 1) _ (fnCells_get l k hlt 1 (by omega)))
        have c2 := (hbel.cell (p := ⟨g, k * 9 + 2, none⟩) hgB).trans (own_cells H.out (k * 9 + 2) _ (fnCells_get l k hlt 2 (by omega)))
        have c3 := (hbel.cell (p := ⟨g, k * 9 + 3, none⟩) hgB).trans (own_cells H.out (k * 9 + 3) _ (fnCells_get l k hlt 3 (by omega)))
        have c4 := (hbel.cell (p := ⟨g, k * 9 + 4, none⟩) hgB).trans (own_cells H.out (k * 9 + 4) _ (fnCells_get l k hlt 4 (by omega)))
        have c5 := (hbel.cell (p := ⟨g, k * 9 + 5, none⟩) hgB).trans (own_cells H.out (k * 9 + 5) _ (fnCells_get l k hlt 5 (by omega)))
        have c6 := (hbel.cell (p := ⟨g, k * 9 + 6, none⟩) hgB).trans (own_cells H.out (k * 9 + 6) _ (fnCells_get l k hlt 6 (by omega)))
        have c7 := (hbel.cell (p := ⟨g, k * 9 + 7, none⟩) hgB).trans (own_cells H.out (k * 9 + 7) _ (fnCells_get l k hlt 7 (by omega)))
        have c8 := (hbel.cell (p := ⟨g, k * 9 + 8, none⟩) hgB).trans (own_cells H.out (k * 9 + 8) _ (fnCells_get l k hlt 8 (by omega)))
        have HG := hide (HGD.out _ (List.getElem_mem hlt))
        have hlk := Pq.fnTxt_len l[k]
        simp only [fnCell, List.getElem_cons_zero, List.getElem_cons_succ] at c0 c1 c2 c3 c4 c5 c6 c7 c8
        by_cases h0 : k = 0
        · have hk0 : ¬ (0 : Int) < (k : Int) := by omega
          have HS2 : Hid (Pq.joinTxt ((l.take (k + 1)).map Pq.fnTxt) = Pq.fnTxt l[k]) := by show _ = _; rw [HS.out, if_pos h0]
          have HT2 : Hid (tk.data.toList = []) := by show _ = _; rw [HT.out, h0]; rfl
          have H0 := hide h0
          clear HS HT h0
          go_wp2_with (go_at_call 50; refine (fnText_any l[k] HG.out _).mono ?_; rintro e w1 ⟨rfl, b1⟩; have B2 := hbel.trans (b1.mono hbel.size); clear b1)
          go_roundw
          case rel => exact ⟨k + 1, _, by omega, by go_num, rfl, by show _ = _; rw [HS2.out]; simp [HT2.out], B2⟩
          case measure => simp [intOf]; omega
        · have hk0 : (0 : Int) < (k : Int) := by omega
          have HS2 : Hid (Pq.joinTxt ((l.take (k + 1)).map Pq.fnTxt) = Pq.joinTxt ((l.take k).map Pq.fnTxt) ++ (44 :: 32 :: Pq.fnTxt l[k])) := by show _ = _; rw [HS.out, if_neg h0]
          have H0 := hide h0
          clear HS h0
          go_wp2_with (go_at_call 50; refine (fnText_any l[k] HG.out _).mono ?_; rintro e w1 ⟨rfl, b1⟩; have B2 := hbel.trans (b1.mono hbel.size); clear b1)
          go_roundw
          case rel => exact ⟨k + 1, _, by omega, by go_num, rfl, by show _ = _; rw [HS2.out, ← HT.out]; simp, B2⟩
          case measure => simp [intOf]; omega
      · have hk' : k = l.length := by omega
        have HR : Hid (tk.data.toList = Pq.fnsTxt l) := by show _ = _; rw [HT.out, hk', List.take_length]; rfl
        clear hk'
        go_wp2
        go_ret
        exact ⟨by rw [← HR.out]; exact ret_str rfl, hbel⟩

end Go.Proofs.YtcoofnhdbejnpaaDoor
