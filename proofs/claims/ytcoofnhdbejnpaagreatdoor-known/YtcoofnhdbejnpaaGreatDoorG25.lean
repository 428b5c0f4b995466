/- Package lines: sum, least, greatest, over. -/
import Derived.Test.YtcoofnhdbejnpaaGreatDoorG23
import Derived.Test.YtcoofnhdbejnpaaGreatDoorG24
namespace Go.Proofs.YtcoofnhdbejnpaaGreatDoor
open Go.RowKit
theorem lcol_in {w : World} {g o : Nat} {vk vc : Value} {ks : List (Nat × Bool)} {L : List Pv.R3} (h : LnAt w g o vk vc ks L) (hL : L.length ≤ 100000) {c : Nat} (hc : c < 3) (j : Nat) (hj : j < L.length) (i : Int) (hi : i = (j : Int) + 1) :
    Calls Tryz.prog 179 #[.pointer (some ⟨g, o, none⟩), .int .i64 (c : Int), .int .i64 i] w fun e w' => e = .returned (.agg #[.bool true, .int .i64 (Pv.colV c L[j])]) ∧ Below w.heap.size w w' := by
  subst hi
  refine (lcol_any h hL hc _ (by omega) (by omega)).mono ?_
  rintro e w' ⟨rfl, hb⟩
  have := Pv.columnP_in L c j hj
  rw [show ((j + 1 : Nat) : Int) = (j : Int) + 1 by omega] at this
  rw [this]
  exact ⟨rfl, hb⟩
theorem seg_mem {l : List Pv.R3} {a b : Nat} {r : Pv.R3} (h : r ∈ Pv.segR l a b) : r ∈ l := List.mem_of_mem_take (List.mem_of_mem_drop h)
theorem seg_len_le (l : List Pv.R3) (a b : Nat) : (Pv.segR l a b).length ≤ l.length := by
  unfold Pv.segR; rw [List.length_drop, List.length_take]; omega
set_option maxRecDepth 100000 in
set_option maxHeartbeats 1000000 in
theorem lsum_any {w : World} {g o : Nat} {vk vc : Value} {ks : List (Nat × Bool)} {L : List Pv.R3} (h : LnAt w g o vk vc ks L) (hk : LnOk ks L) {c : Nat} (hc : c < 3) (a b : Nat) (hab : a < b) (hb : b ≤ L.length) :
    Calls Tryz.prog 204 #[.pointer (some ⟨g, o, none⟩), .int .i64 (c : Int), .int .i64 ((a : Int) + 1), .int .i64 (b : Int)] w fun e w' => e = .returned (.int .i64 (Pv.sumC c (Pv.segR L (a + 1) b))) ∧ Below w.heap.size w w' := by
  have HH := hide h
  have HK := hide hk
  have hll := hk.ll
  clear h hk
  go_enter Tryz.func204, Tryz.ntmps204
  go_wp2_with fail
  go_loopw [9, 10] (fun n9 r10 wr => ∃ k : Nat, a ≤ k ∧ k ≤ b ∧ r10 = .int .i64 ((k : Int) + 1) ∧ n9 = .int .i64 (Pv.sumC c (Pv.segR L (a + 1) k)) ∧ Below w.heap.size w wr) (fun _ r10 _ => b + 1 - (intOf r10).toNat)
  case atStart => exact ⟨a, Nat.le_refl _, by omega, rfl, by rw [Pv.seg_none L (a + 1) a (by omega)]; rfl, Below.refl _ _⟩
  case round =>
    obtain ⟨k, hk1, hk2, rfl, rfl, hb1⟩ := hrel
    have B1 := hide hb1
    clear hb1
    have hsb := Pv.sumC_bd c (Pv.segR L (a + 1) k) (fun r hr => HK.out.row r (seg_mem hr) c)
    have hsl := seg_len_le L (a + 1) k
    have s1 : -1000000000 ≤ Pv.sumC c (Pv.segR L (a + 1) k) := by omega
    have s2 : Pv.sumC c (Pv.segR L (a + 1) k) ≤ 1000000000 := by omega
    clear hsb hsl
    by_cases hlt : k < b
    · have hlt' : (k : Int) + 1 ≤ (b : Int) := by omega
      have hkl : k < L.length := by omega
      obtain ⟨r1, r2⟩ := HK.out.row _ (List.getElem_mem hkl) c
      have HS : Hid (Pv.sumC c (Pv.segR L (a + 1) (k + 1)) = Pv.sumC c (Pv.segR L (a + 1) k) + Pv.colV c L[k]) := by
        show _ = _
        rw [Pv.seg_succ L (a + 1) k (by omega) hkl, Pv.sumC_snoc]
      generalize Pv.sumC c (Pv.segR L (a + 1) k) = s at *
      go_wp2_with fail
      refine (lcol_in (HH.out.below B1.out) HK.out.ll hc k hkl _ rfl).mono ?_
      rintro e w3 ⟨rfl, e3⟩
      have B3 := hide (B1.out.trans (e3.mono B1.out.size))
      clear e3
      generalize Pv.colV c L[k] = y at *
      go_wp2
      rename_i hK
      refine hK _ _ ?_
      clear hK
      simp only [List.getElem_toArray, List.getElem_cons_succ, List.getElem_cons_zero]
      go_wp2
      go_roundw
      case rel => exact ⟨k + 1, by omega, by omega, by go_num, by rw [HS.out], B3.out⟩
      case measure => simp [intOf]; omega
    · obtain rfl : k = b := by omega
      have hlt' : ¬ (k : Int) + 1 ≤ (k : Int) := by omega
      go_wp2
      go_ret
      exact ⟨rfl, B1.out⟩
set_option maxRecDepth 100000 in
set_option maxHeartbeats 1000000 in
theorem lleast_any {w : World} {g o : Nat} {vk vc : Value} {ks : List (Nat × Bool)} {L : List Pv.R3} (h : LnAt w g o vk vc ks L) (hk : LnOk ks L) {c : Nat} (hc : c < 3) (a b : Nat) (hab : a < b) (hb : b ≤ L.length) :
    Calls Tryz.prog 205 #[.pointer (some ⟨g, o, none⟩), .int .i64 (c : Int), .int .i64 ((a : Int) + 1), .int .i64 (b : Int)] w fun e w' => e = .returned (.int .i64 (Pv.minC c (Pv.colV c (L[a]'(by omega))) (Pv.segR L (a + 1) b))) ∧ Below w.heap.size w w' := by
  have HH := hide h
  have HK := hide hk
  have hll := hk.ll
  have hal : a < L.length := by omega
  clear h hk
  go_enter Tryz.func205, Tryz.ntmps205
  go_wp2_with fail
  refine (lcol_in HH.out HK.out.ll hc a hal _ rfl).mono ?_
  rintro e w1 ⟨rfl, e1⟩
  have B0 := hide e1
  clear e1
  generalize hm0 : Pv.colV c L[a] = m0 at *
  have HM0 := hide hm0
  clear hm0
  go_wp2_with fail
  rename_i hK
  refine hK _ _ ?_
  clear hK
  simp only [List.getElem_toArray, List.getElem_cons_succ, List.getElem_cons_zero]
  go_wp2_with fail
  go_loopw [9, 10] (fun n9 r10 wr => ∃ k : Nat, a ≤ k ∧ k ≤ b ∧ r10 = .int .i64 ((k : Int) + 1) ∧ n9 = .int .i64 (Pv.minC c m0 (Pv.segR L (a + 1) k)) ∧ Below w.heap.size w wr) (fun _ r10 _ => b + 1 - (intOf r10).toNat)
  case atStart => exact ⟨a, Nat.le_refl _, by omega, rfl, by rw [Pv.seg_none L (a + 1) a (by omega)]; rfl, B0.out⟩
  case round =>
    obtain ⟨k, hk1, hk2, rfl, rfl, hb1⟩ := hrel
    have B1 := hide hb1
    clear hb1
    by_cases hlt : k < b
    · have hlt' : (k : Int) + 1 ≤ (b : Int) := by omega
      have hkl : k < L.length := by omega
      have HS : Hid (Pv.minC c m0 (Pv.segR L (a + 1) (k + 1)) = if Pv.colV c L[k] < Pv.minC c m0 (Pv.segR L (a + 1) k) then Pv.colV c L[k] else Pv.minC c m0 (Pv.segR L (a + 1) k)) := by
        show _ = _
        rw [Pv.seg_succ L (a + 1) k (by omega) hkl, Pv.minC_snoc]
      generalize Pv.minC c m0 (Pv.segR L (a + 1) k) = s at *
      go_wp2_with fail
      refine (lcol_in (HH.out.below B1.out) HK.out.ll hc k hkl _ rfl).mono ?_
      rintro e w3 ⟨rfl, e3⟩
      have B3 := hide (B1.out.trans (e3.mono B1.out.size))
      clear e3
      generalize Pv.colV c L[k] = y at *
      go_wp2_with fail
      rename_i hK
      refine hK _ _ ?_
      clear hK
      simp only [List.getElem_toArray, List.getElem_cons_succ, List.getElem_cons_zero]
      by_cases hy : y < s
      · rw [if_pos hy] at HS
        go_wp2
        go_roundw
        case rel => exact ⟨k + 1, by omega, by omega, by go_num, by rw [HS.out], B3.out⟩
        case measure => simp [intOf]; omega
      · rw [if_neg hy] at HS
        go_wp2
        go_roundw
        case rel => exact ⟨k + 1, by omega, by omega, by go_num, by rw [HS.out], B3.out⟩
        case measure => simp [intOf]; omega
    · obtain rfl : k = b := by omega
      have hlt' : ¬ (k : Int) + 1 ≤ (k : Int) := by omega
      go_wp2
      go_ret
      exact ⟨by rw [HM0.out]; rfl, B1.out⟩
set_option maxRecDepth 100000 in
set_option maxHeartbeats 1000000 in
theorem lgreat_any {w : World} {g o : Nat} {vk vc : Value} {ks : List (Nat × Bool)} {L : List Pv.R3} (h : LnAt w g o vk vc ks L) (hk : LnOk ks L) {c : Nat} (hc : c < 3) (a b : Nat) (hab : a < b) (hb : b ≤ L.length) :
    Calls Tryz.prog 206 #[.pointer (some ⟨g, o, none⟩), .int .i64 (c : Int), .int .i64 ((a : Int) + 1), .int .i64 (b : Int)] w fun e w' => e = .returned (.int .i64 (Pv.maxC c (Pv.colV c (L[a]'(by omega))) (Pv.segR L (a + 1) b))) ∧ Below w.heap.size w w' := by
  have HH := hide h
  have HK := hide hk
  have hll := hk.ll
  have hal : a < L.length := by omega
  clear h hk
  go_enter Tryz.func206, Tryz.ntmps206
  go_wp2_with fail
  refine (lcol_in HH.out HK.out.ll hc a hal _ rfl).mono ?_
  rintro e w1 ⟨rfl, e1⟩
  have B0 := hide e1
  clear e1
  generalize hm0 : Pv.colV c L[a] = m0 at *
  have HM0 := hide hm0
  clear hm0
  go_wp2_with fail
  rename_i hK
  refine hK _ _ ?_
  clear hK
  simp only [List.getElem_toArray, List.getElem_cons_succ, List.getElem_cons_zero]
  go_wp2_with fail
  go_loopw [9, 10] (fun n9 r10 wr => ∃ k : Nat, a ≤ k ∧ k ≤ b ∧ r10 = .int .i64 ((k : Int) + 1) ∧ n9 = .int .i64 (Pv.maxC c m0 (Pv.segR L (a + 1) k)) ∧ Below w.heap.size w wr) (fun _ r10 _ => b + 1 - (intOf r10).toNat)
  case atStart => exact ⟨a, Nat.le_refl _, by omega, rfl, by rw [Pv.seg_none L (a + 1) a (by omega)]; rfl, B0.out⟩
  case round =>
    obtain ⟨k, hk1, hk2, rfl, rfl, hb1⟩ := hrel
    have B1 := hide hb1
    clear hb1
    by_cases hlt : k < b
    · have hlt' : (k : Int) + 1 ≤ (b : Int) := by omega
      have hkl : k < L.length := by omega
      have HS : Hid (Pv.maxC c m0 (Pv.segR L (a + 1) (k + 1)) = if Pv.maxC c m0 (Pv.segR L (a + 1) k) < Pv.colV c L[k] then Pv.colV c L[k] else Pv.maxC c m0 (Pv.segR L (a + 1) k)) := by
        show _ = _
        rw [Pv.seg_succ L (a + 1) k (by omega) hkl, Pv.maxC_snoc]
      generalize Pv.maxC c m0 (Pv.segR L (a + 1) k) = s at *
      go_wp2_with fail
      refine (lcol_in (HH.out.below B1.out) HK.out.ll hc k hkl _ rfl).mono ?_
      rintro e w3 ⟨rfl, e3⟩
      have B3 := hide (B1.out.trans (e3.mono B1.out.size))
      clear e3
      generalize Pv.colV c L[k] = y at *
      go_wp2_with fail
      rename_i hK
      refine hK _ _ ?_
      clear hK
      simp only [List.getElem_toArray, List.getElem_cons_succ, List.getElem_cons_zero]
      by_cases hy : s < y
      · rw [if_pos hy] at HS
        go_wp2
        go_roundw
        case rel => exact ⟨k + 1, by omega, by omega, by go_num, by rw [HS.out], B3.out⟩
        case measure => simp [intOf]; omega
      · rw [if_neg hy] at HS
        go_wp2
        go_roundw
        case rel => exact ⟨k + 1, by omega, by omega, by go_num, by rw [HS.out], B3.out⟩
        case measure => simp [intOf]; omega
    · obtain rfl : k = b := by omega
      have hlt' : ¬ (k : Int) + 1 ≤ (k : Int) := by omega
      go_wp2
      go_ret
      exact ⟨by rw [HM0.out]; rfl, B1.out⟩
/-- a FUNC as a value -/
def fval (f : Pq.Fn) : Value := .agg #[.int .i64 (f.kind : Int), .int .i64 (f.col : Int), .int .i64 f.num, .int .i64 (f.frame.kind : Int), .int .i64 f.frame.num, .int .i64 (f.frame.frm.kind : Int), .int .i64 f.frame.frm.num, .int .i64 (f.frame.to.kind : Int), .int .i64 f.frame.to.num]
set_option maxRecDepth 100000 in
set_option maxHeartbeats 1000000 in
theorem lover_none0 {w : World} {g o : Nat} {vk vc : Value} {ks : List (Nat × Bool)} {L : List Pv.R3} (h : LnAt w g o vk vc ks L) (hk : LnOk ks L) {c : Nat} (_hc : c < 3) (num fn en tn : Int) (fk ek tk : Nat) (x y : Int) (hxy : y < x) :
    Calls Tryz.prog 181 #[.pointer (some ⟨g, o, none⟩), .agg #[.int .i64 6, .int .i64 (c : Int), .int .i64 num, .int .i64 (fk : Int), .int .i64 fn, .int .i64 (ek : Int), .int .i64 en, .int .i64 (tk : Int), .int .i64 tn], .int .i64 x, .int .i64 y] w fun e w' => e = .returned (.agg #[.bool true, .int .i64 0]) ∧ Below w.heap.size w w' := by
  have HH := hide h
  have HK := hide hk
  have hll := hk.ll
  clear h hk
  go_enter Tryz.func181, Tryz.ntmps181
  go_upto_region 1 with fail
  have C0 := hide (K2.start w #[.int .i64 6, .int .i64 (c : Int), .int .i64 num, .int .i64 (fk : Int), .int .i64 fn, .int .i64 (ek : Int), .int .i64 en, .int .i64 (tk : Int), .int .i64 tn] 223 #[.bool false, .int .i64 0] 52)
  generalize ((w.alloc (.cells #[.int .i64 6, .int .i64 (c : Int), .int .i64 num, .int .i64 (fk : Int), .int .i64 fn, .int .i64 (ek : Int), .int .i64 en, .int .i64 (tk : Int), .int .i64 tn] 223)).alloc (.cells #[.bool false, .int .i64 0] 52)) = w0 at *
  have k0 : w0.cell? ⟨w.heap.size, 0, none⟩ = some (.int .i64 6) := cell_of_heap C0.out.a 0
  have k1 : w0.cell? ⟨w.heap.size, 1, none⟩ = some (.int .i64 (c : Int)) := cell_of_heap C0.out.a 1
  have H1 := hide (HH.out.below C0.out.bl)
  go_wp2_with fail
  refine (lsome_any _ _).mono ?_
  rintro e w4 ⟨rfl, e4⟩
  have C4 := hide (C0.out.below e4)
  clear e4 k0 k1
  have z0 : w4.cell? ⟨w.heap.size + 1, 0, none⟩ = some (.bool false) := cell_of_heap C4.out.b 0
  have z1 : w4.cell? ⟨w.heap.size + 1, 1, none⟩ = some (.int .i64 0) := cell_of_heap C4.out.b 1
  have f0 := free_of_heap C4.out.b 0
  have f1 := free_of_heap C4.out.b 1
  obtain ⟨l0, l1⟩ := set2 C4.out.b (.bool true) (.int .i64 0)
  go_wp2
  refine bodyPost_ret (v := .agg #[.bool true, .int .i64 0]) (by simp [results, Tryz.results181, go_sem, l0, l1]) rfl ⟨by rfl, ?_⟩
  exact (C4.out.bl.setCell (p := ⟨w.heap.size + 1, 0, none⟩) (by simp) _).setCell (p := ⟨w.heap.size + 1, 1, none⟩) (by simp) _
set_option maxRecDepth 100000 in
set_option maxHeartbeats 1000000 in
theorem lover_none1 {w : World} {g o : Nat} {vk vc : Value} {ks : List (Nat × Bool)} {L : List Pv.R3} (h : LnAt w g o vk vc ks L) (hk : LnOk ks L) {c : Nat} (_hc : c < 3) (num fn en tn : Int) (fk ek tk : Nat) (k : Nat) (hk6 : k ≠ 6) (x y : Int) (hxy : y < x) :
    Calls Tryz.prog 181 #[.pointer (some ⟨g, o, none⟩), .agg #[.int .i64 (k : Int), .int .i64 (c : Int), .int .i64 num, .int .i64 (fk : Int), .int .i64 fn, .int .i64 (ek : Int), .int .i64 en, .int .i64 (tk : Int), .int .i64 tn], .int .i64 x, .int .i64 y] w fun e w' => e = .returned (.agg #[.bool false, .int .i64 0]) ∧ Below w.heap.size w w' := by
  have HH := hide h
  have HK := hide hk
  have hll := hk.ll
  clear h hk
  have hk6' : ((k : Int) == 6) = false := by simp; omega
  go_enter Tryz.func181, Tryz.ntmps181
  go_upto_region 1 with fail
  have C0 := hide (K2.start w #[.int .i64 (k : Int), .int .i64 (c : Int), .int .i64 num, .int .i64 (fk : Int), .int .i64 fn, .int .i64 (ek : Int), .int .i64 en, .int .i64 (tk : Int), .int .i64 tn] 223 #[.bool false, .int .i64 0] 52)
  generalize ((w.alloc (.cells #[.int .i64 (k : Int), .int .i64 (c : Int), .int .i64 num, .int .i64 (fk : Int), .int .i64 fn, .int .i64 (ek : Int), .int .i64 en, .int .i64 (tk : Int), .int .i64 tn] 223)).alloc (.cells #[.bool false, .int .i64 0] 52)) = w0 at *
  have k0 : w0.cell? ⟨w.heap.size, 0, none⟩ = some (.int .i64 (k : Int)) := cell_of_heap C0.out.a 0
  have k1 : w0.cell? ⟨w.heap.size, 1, none⟩ = some (.int .i64 (c : Int)) := cell_of_heap C0.out.a 1
  have H1 := hide (HH.out.below C0.out.bl)
  go_wp2_with fail
  refine (lnone_any _).mono ?_
  rintro e w4 ⟨rfl, e4⟩
  have C4 := hide (C0.out.below e4)
  clear e4 k0 k1
  have z0 : w4.cell? ⟨w.heap.size + 1, 0, none⟩ = some (.bool false) := cell_of_heap C4.out.b 0
  have z1 : w4.cell? ⟨w.heap.size + 1, 1, none⟩ = some (.int .i64 0) := cell_of_heap C4.out.b 1
  have f0 := free_of_heap C4.out.b 0
  have f1 := free_of_heap C4.out.b 1
  obtain ⟨l0, l1⟩ := set2 C4.out.b (.bool false) (.int .i64 0)
  go_wp2
  refine bodyPost_ret (v := .agg #[.bool false, .int .i64 0]) (by simp [results, Tryz.results181, go_sem, l0, l1]) rfl ⟨by rfl, ?_⟩
  exact (C4.out.bl.setCell (p := ⟨w.heap.size + 1, 0, none⟩) (by simp) _).setCell (p := ⟨w.heap.size + 1, 1, none⟩) (by simp) _
set_option maxRecDepth 100000 in
set_option maxHeartbeats 1000000 in
theorem lover_count {w : World} {g o : Nat} {vk vc : Value} {ks : List (Nat × Bool)} {L : List Pv.R3} (h : LnAt w g o vk vc ks L) (hk : LnOk ks L) {c : Nat} (_hc : c < 3) (num fn en tn : Int) (fk ek tk : Nat) (a b : Nat) (hab : a < b) (hb : b ≤ L.length) :
    Calls Tryz.prog 181 #[.pointer (some ⟨g, o, none⟩), .agg #[.int .i64 6, .int .i64 (c : Int), .int .i64 num, .int .i64 (fk : Int), .int .i64 fn, .int .i64 (ek : Int), .int .i64 en, .int .i64 (tk : Int), .int .i64 tn], .int .i64 ((a : Int) + 1), .int .i64 (b : Int)] w fun e w' => e = .returned (.agg #[.bool true, .int .i64 ((b : Int) - a)]) ∧ Below w.heap.size w w' := by
  have HH := hide h
  have HK := hide hk
  have hll := hk.ll
  clear h hk
  have hab2 : ¬ (b : Int) < (a : Int) + 1 := by omega
  have hws : IntKind.i64.wrap ((b : Int) - ((a : Int) + 1) + 1) = (b : Int) - a := by rw [wrap_id (by omega) (by omega)]; omega
  go_enter Tryz.func181, Tryz.ntmps181
  go_upto_region 1 with fail
  have C0 := hide (K2.start w #[.int .i64 6, .int .i64 (c : Int), .int .i64 num, .int .i64 (fk : Int), .int .i64 fn, .int .i64 (ek : Int), .int .i64 en, .int .i64 (tk : Int), .int .i64 tn] 223 #[.bool false, .int .i64 0] 52)
  generalize ((w.alloc (.cells #[.int .i64 6, .int .i64 (c : Int), .int .i64 num, .int .i64 (fk : Int), .int .i64 fn, .int .i64 (ek : Int), .int .i64 en, .int .i64 (tk : Int), .int .i64 tn] 223)).alloc (.cells #[.bool false, .int .i64 0] 52)) = w0 at *
  have k0 : w0.cell? ⟨w.heap.size, 0, none⟩ = some (.int .i64 6) := cell_of_heap C0.out.a 0
  have k1 : w0.cell? ⟨w.heap.size, 1, none⟩ = some (.int .i64 (c : Int)) := cell_of_heap C0.out.a 1
  have H1 := hide (HH.out.below C0.out.bl)
  go_wp2_with fail
  refine (lsome_any _ _).mono ?_
  rintro e w4 ⟨rfl, e4⟩
  have C4 := hide (C0.out.below e4)
  clear e4 k0 k1
  have z0 : w4.cell? ⟨w.heap.size + 1, 0, none⟩ = some (.bool false) := cell_of_heap C4.out.b 0
  have z1 : w4.cell? ⟨w.heap.size + 1, 1, none⟩ = some (.int .i64 0) := cell_of_heap C4.out.b 1
  have f0 := free_of_heap C4.out.b 0
  have f1 := free_of_heap C4.out.b 1
  obtain ⟨l0, l1⟩ := set2 C4.out.b (.bool true) (.int .i64 ((b : Int) - a))
  go_wp2
  refine bodyPost_ret (v := .agg #[.bool true, .int .i64 ((b : Int) - a)]) (by simp [results, Tryz.results181, go_sem, l0, l1]) rfl ⟨by rfl, ?_⟩
  exact (C4.out.bl.setCell (p := ⟨w.heap.size + 1, 0, none⟩) (by simp) _).setCell (p := ⟨w.heap.size + 1, 1, none⟩) (by simp) _
set_option maxRecDepth 100000 in
set_option maxHeartbeats 1000000 in
theorem lover_sum {w : World} {g o : Nat} {vk vc : Value} {ks : List (Nat × Bool)} {L : List Pv.R3} (h : LnAt w g o vk vc ks L) (hk : LnOk ks L) {c : Nat} (hc : c < 3) (num fn en tn : Int) (fk ek tk : Nat) (a b : Nat) (hab : a < b) (hb : b ≤ L.length) :
    Calls Tryz.prog 181 #[.pointer (some ⟨g, o, none⟩), .agg #[.int .i64 7, .int .i64 (c : Int), .int .i64 num, .int .i64 (fk : Int), .int .i64 fn, .int .i64 (ek : Int), .int .i64 en, .int .i64 (tk : Int), .int .i64 tn], .int .i64 ((a : Int) + 1), .int .i64 (b : Int)] w fun e w' => e = .returned (.agg #[.bool true, .int .i64 (Pv.sumC c (Pv.segR L (a + 1) b))]) ∧ Below w.heap.size w w' := by
  have HH := hide h
  have HK := hide hk
  have hll := hk.ll
  clear h hk
  have hab2 : ¬ (b : Int) < (a : Int) + 1 := by omega
  go_enter Tryz.func181, Tryz.ntmps181
  go_upto_region 1 with fail
  have C0 := hide (K2.start w #[.int .i64 7, .int .i64 (c : Int), .int .i64 num, .int .i64 (fk : Int), .int .i64 fn, .int .i64 (ek : Int), .int .i64 en, .int .i64 (tk : Int), .int .i64 tn] 223 #[.bool false, .int .i64 0] 52)
  generalize ((w.alloc (.cells #[.int .i64 7, .int .i64 (c : Int), .int .i64 num, .int .i64 (fk : Int), .int .i64 fn, .int .i64 (ek : Int), .int .i64 en, .int .i64 (tk : Int), .int .i64 tn] 223)).alloc (.cells #[.bool false, .int .i64 0] 52)) = w0 at *
  have k0 : w0.cell? ⟨w.heap.size, 0, none⟩ = some (.int .i64 7) := cell_of_heap C0.out.a 0
  have k1 : w0.cell? ⟨w.heap.size, 1, none⟩ = some (.int .i64 (c : Int)) := cell_of_heap C0.out.a 1
  have H1 := hide (HH.out.below C0.out.bl)
  go_wp2_with fail
  refine (lsum_any H1.out HK.out hc a b hab hb).mono ?_
  rintro e w3 ⟨rfl, e3⟩
  have C3 := hide (C0.out.below e3)
  clear e3 k0 k1
  generalize hs : Pv.sumC c (Pv.segR L (a + 1) b) = s at *
  have HSV := hide hs
  clear hs
  go_wp2_with fail
  refine (lsome_any _ _).mono ?_
  rintro e w4 ⟨rfl, e4⟩
  have C4 := hide (C3.out.below e4)
  clear e4
  have z0 : w4.cell? ⟨w.heap.size + 1, 0, none⟩ = some (.bool false) := cell_of_heap C4.out.b 0
  have z1 : w4.cell? ⟨w.heap.size + 1, 1, none⟩ = some (.int .i64 0) := cell_of_heap C4.out.b 1
  have f0 := free_of_heap C4.out.b 0
  have f1 := free_of_heap C4.out.b 1
  obtain ⟨l0, l1⟩ := set2 C4.out.b (.bool true) (.int .i64 s)
  go_wp2
  refine bodyPost_ret (v := .agg #[.bool true, .int .i64 s]) (by simp [results, Tryz.results181, go_sem, l0, l1]) rfl ⟨by rw [HSV.out], ?_⟩
  exact (C4.out.bl.setCell (p := ⟨w.heap.size + 1, 0, none⟩) (by simp) _).setCell (p := ⟨w.heap.size + 1, 1, none⟩) (by simp) _
set_option maxRecDepth 100000 in
set_option maxHeartbeats 1000000 in
theorem lover_min {w : World} {g o : Nat} {vk vc : Value} {ks : List (Nat × Bool)} {L : List Pv.R3} (h : LnAt w g o vk vc ks L) (hk : LnOk ks L) {c : Nat} (hc : c < 3) (num fn en tn : Int) (fk ek tk : Nat) (a b : Nat) (hab : a < b) (hb : b ≤ L.length) :
    Calls Tryz.prog 181 #[.pointer (some ⟨g, o, none⟩), .agg #[.int .i64 8, .int .i64 (c : Int), .int .i64 num, .int .i64 (fk : Int), .int .i64 fn, .int .i64 (ek : Int), .int .i64 en, .int .i64 (tk : Int), .int .i64 tn], .int .i64 ((a : Int) + 1), .int .i64 (b : Int)] w fun e w' => e = .returned (.agg #[.bool true, .int .i64 (Pv.minC c (Pv.colV c (L[a]'(by omega))) (Pv.segR L (a + 1) b))]) ∧ Below w.heap.size w w' := by
  have HH := hide h
  have HK := hide hk
  have hll := hk.ll
  clear h hk
  have hab2 : ¬ (b : Int) < (a : Int) + 1 := by omega
  go_enter Tryz.func181, Tryz.ntmps181
  go_upto_region 1 with fail
  have C0 := hide (K2.start w #[.int .i64 8, .int .i64 (c : Int), .int .i64 num, .int .i64 (fk : Int), .int .i64 fn, .int .i64 (ek : Int), .int .i64 en, .int .i64 (tk : Int), .int .i64 tn] 223 #[.bool false, .int .i64 0] 52)
  generalize ((w.alloc (.cells #[.int .i64 8, .int .i64 (c : Int), .int .i64 num, .int .i64 (fk : Int), .int .i64 fn, .int .i64 (ek : Int), .int .i64 en, .int .i64 (tk : Int), .int .i64 tn] 223)).alloc (.cells #[.bool false, .int .i64 0] 52)) = w0 at *
  have k0 : w0.cell? ⟨w.heap.size, 0, none⟩ = some (.int .i64 8) := cell_of_heap C0.out.a 0
  have k1 : w0.cell? ⟨w.heap.size, 1, none⟩ = some (.int .i64 (c : Int)) := cell_of_heap C0.out.a 1
  have H1 := hide (HH.out.below C0.out.bl)
  go_wp2_with fail
  refine (lleast_any H1.out HK.out hc a b hab hb).mono ?_
  rintro e w3 ⟨rfl, e3⟩
  have C3 := hide (C0.out.below e3)
  clear e3 k0 k1
  generalize hs : Pv.minC c (Pv.colV c (L[a]'(by omega))) (Pv.segR L (a + 1) b) = s at *
  have HSV := hide hs
  clear hs
  go_wp2_with fail
  refine (lsome_any _ _).mono ?_
  rintro e w4 ⟨rfl, e4⟩
  have C4 := hide (C3.out.below e4)
  clear e4
  have z0 : w4.cell? ⟨w.heap.size + 1, 0, none⟩ = some (.bool false) := cell_of_heap C4.out.b 0
  have z1 : w4.cell? ⟨w.heap.size + 1, 1, none⟩ = some (.int .i64 0) := cell_of_heap C4.out.b 1
  have f0 := free_of_heap C4.out.b 0
  have f1 := free_of_heap C4.out.b 1
  obtain ⟨l0, l1⟩ := set2 C4.out.b (.bool true) (.int .i64 s)
  go_wp2
  refine bodyPost_ret (v := .agg #[.bool true, .int .i64 s]) (by simp [results, Tryz.results181, go_sem, l0, l1]) rfl ⟨by rw [HSV.out], ?_⟩
  exact (C4.out.bl.setCell (p := ⟨w.heap.size + 1, 0, none⟩) (by simp) _).setCell (p := ⟨w.heap.size + 1, 1, none⟩) (by simp) _
set_option maxRecDepth 100000 in
set_option maxHeartbeats 1000000 in
theorem lover_max {w : World} {g o : Nat} {vk vc : Value} {ks : List (Nat × Bool)} {L : List Pv.R3} (h : LnAt w g o vk vc ks L) (hk : LnOk ks L) {c : Nat} (hc : c < 3) (num fn en tn : Int) (fk ek tk : Nat) (a b : Nat) (hab : a < b) (hb : b ≤ L.length) :
    Calls Tryz.prog 181 #[.pointer (some ⟨g, o, none⟩), .agg #[.int .i64 9, .int .i64 (c : Int), .int .i64 num, .int .i64 (fk : Int), .int .i64 fn, .int .i64 (ek : Int), .int .i64 en, .int .i64 (tk : Int), .int .i64 tn], .int .i64 ((a : Int) + 1), .int .i64 (b : Int)] w fun e w' => e = .returned (.agg #[.bool true, .int .i64 (Pv.maxC c (Pv.colV c (L[a]'(by omega))) (Pv.segR L (a + 1) b))]) ∧ Below w.heap.size w w' := by
  have HH := hide h
  have HK := hide hk
  have hll := hk.ll
  clear h hk
  have hab2 : ¬ (b : Int) < (a : Int) + 1 := by omega
  go_enter Tryz.func181, Tryz.ntmps181
  go_upto_region 1 with fail
  have C0 := hide (K2.start w #[.int .i64 9, .int .i64 (c : Int), .int .i64 num, .int .i64 (fk : Int), .int .i64 fn, .int .i64 (ek : Int), .int .i64 en, .int .i64 (tk : Int), .int .i64 tn] 223 #[.bool false, .int .i64 0] 52)
  generalize ((w.alloc (.cells #[.int .i64 9, .int .i64 (c : Int), .int .i64 num, .int .i64 (fk : Int), .int .i64 fn, .int .i64 (ek : Int), .int .i64 en, .int .i64 (tk : Int), .int .i64 tn] 223)).alloc (.cells #[.bool false, .int .i64 0] 52)) = w0 at *
  have k0 : w0.cell? ⟨w.heap.size, 0, none⟩ = some (.int .i64 9) := cell_of_heap C0.out.a 0
  have k1 : w0.cell? ⟨w.heap.size, 1, none⟩ = some (.int .i64 (c : Int)) := cell_of_heap C0.out.a 1
  have H1 := hide (HH.out.below C0.out.bl)
  go_wp2_with fail
  refine (lgreat_any H1.out HK.out hc a b hab hb).mono ?_
  rintro e w3 ⟨rfl, e3⟩
  have C3 := hide (C0.out.below e3)
  clear e3 k0 k1
  generalize hs : Pv.maxC c (Pv.colV c (L[a]'(by omega))) (Pv.segR L (a + 1) b) = s at *
  have HSV := hide hs
  clear hs
  go_wp2_with fail
  refine (lsome_any _ _).mono ?_
  rintro e w4 ⟨rfl, e4⟩
  have C4 := hide (C3.out.below e4)
  clear e4
  have z0 : w4.cell? ⟨w.heap.size + 1, 0, none⟩ = some (.bool false) := cell_of_heap C4.out.b 0
  have z1 : w4.cell? ⟨w.heap.size + 1, 1, none⟩ = some (.int .i64 0) := cell_of_heap C4.out.b 1
  have f0 := free_of_heap C4.out.b 0
  have f1 := free_of_heap C4.out.b 1
  obtain ⟨l0, l1⟩ := set2 C4.out.b (.bool true) (.int .i64 s)
  go_wp2
  refine bodyPost_ret (v := .agg #[.bool true, .int .i64 s]) (by simp [results, Tryz.results181, go_sem, l0, l1]) rfl ⟨by rw [HSV.out], ?_⟩
  exact (C4.out.bl.setCell (p := ⟨w.heap.size + 1, 0, none⟩) (by simp) _).setCell (p := ⟨w.heap.size + 1, 1, none⟩) (by simp) _
set_option maxRecDepth 100000 in
set_option maxHeartbeats 1000000 in
theorem lover_first {w : World} {g o : Nat} {vk vc : Value} {ks : List (Nat × Bool)} {L : List Pv.R3} (h : LnAt w g o vk vc ks L) (hk : LnOk ks L) {c : Nat} (hc : c < 3) (num fn en tn : Int) (fk ek tk : Nat) (a b : Nat) (hab : a < b) (hb : b ≤ L.length) :
    Calls Tryz.prog 181 #[.pointer (some ⟨g, o, none⟩), .agg #[.int .i64 10, .int .i64 (c : Int), .int .i64 num, .int .i64 (fk : Int), .int .i64 fn, .int .i64 (ek : Int), .int .i64 en, .int .i64 (tk : Int), .int .i64 tn], .int .i64 ((a : Int) + 1), .int .i64 (b : Int)] w fun e w' => e = .returned (.agg #[.bool true, .int .i64 (Pv.colV c (L[a]'(by omega)))]) ∧ Below w.heap.size w w' := by
  have HH := hide h
  have HK := hide hk
  have hll := hk.ll
  clear h hk
  have hab2 : ¬ (b : Int) < (a : Int) + 1 := by omega
  go_enter Tryz.func181, Tryz.ntmps181
  go_upto_region 1 with fail
  have C0 := hide (K2.start w #[.int .i64 10, .int .i64 (c : Int), .int .i64 num, .int .i64 (fk : Int), .int .i64 fn, .int .i64 (ek : Int), .int .i64 en, .int .i64 (tk : Int), .int .i64 tn] 223 #[.bool false, .int .i64 0] 52)
  generalize ((w.alloc (.cells #[.int .i64 10, .int .i64 (c : Int), .int .i64 num, .int .i64 (fk : Int), .int .i64 fn, .int .i64 (ek : Int), .int .i64 en, .int .i64 (tk : Int), .int .i64 tn] 223)).alloc (.cells #[.bool false, .int .i64 0] 52)) = w0 at *
  have k0 : w0.cell? ⟨w.heap.size, 0, none⟩ = some (.int .i64 10) := cell_of_heap C0.out.a 0
  have k1 : w0.cell? ⟨w.heap.size, 1, none⟩ = some (.int .i64 (c : Int)) := cell_of_heap C0.out.a 1
  have H1 := hide (HH.out.below C0.out.bl)
  go_wp2_with fail
  refine (lcol_in H1.out HK.out.ll hc (a) (by omega) _ (by omega)).mono ?_
  rintro e w4 ⟨rfl, e4⟩
  have C4 := hide (C0.out.below e4)
  clear e4 k0 k1
  generalize hs : Pv.colV c (L[a]'(by omega)) = s at *
  have HSV := hide hs
  clear hs
  have z0 : w4.cell? ⟨w.heap.size + 1, 0, none⟩ = some (.bool false) := cell_of_heap C4.out.b 0
  have z1 : w4.cell? ⟨w.heap.size + 1, 1, none⟩ = some (.int .i64 0) := cell_of_heap C4.out.b 1
  have f0 := free_of_heap C4.out.b 0
  have f1 := free_of_heap C4.out.b 1
  obtain ⟨l0, l1⟩ := set2 C4.out.b (.bool true) (.int .i64 s)
  go_wp2
  refine bodyPost_ret (v := .agg #[.bool true, .int .i64 s]) (by simp [results, Tryz.results181, go_sem, l0, l1]) rfl ⟨by rw [HSV.out], ?_⟩
  exact (C4.out.bl.setCell (p := ⟨w.heap.size + 1, 0, none⟩) (by simp) _).setCell (p := ⟨w.heap.size + 1, 1, none⟩) (by simp) _
set_option maxRecDepth 100000 in
set_option maxHeartbeats 1000000 in
theorem lover_last {w : World} {g o : Nat} {vk vc : Value} {ks : List (Nat × Bool)} {L : List Pv.R3} (h : LnAt w g o vk vc ks L) (hk : LnOk ks L) {c : Nat} (hc : c < 3) (num fn en tn : Int) (fk ek tk : Nat) (a b : Nat) (hab : a < b) (hb : b ≤ L.length) :
    Calls Tryz.prog 181 #[.pointer (some ⟨g, o, none⟩), .agg #[.int .i64 11, .int .i64 (c : Int), .int .i64 num, .int .i64 (fk : Int), .int .i64 fn, .int .i64 (ek : Int), .int .i64 en, .int .i64 (tk : Int), .int .i64 tn], .int .i64 ((a : Int) + 1), .int .i64 (b : Int)] w fun e w' => e = .returned (.agg #[.bool true, .int .i64 (Pv.colV c (L[b - 1]'(by omega)))]) ∧ Below w.heap.size w w' := by
  have HH := hide h
  have HK := hide hk
  have hll := hk.ll
  clear h hk
  have hab2 : ¬ (b : Int) < (a : Int) + 1 := by omega
  go_enter Tryz.func181, Tryz.ntmps181
  go_upto_region 1 with fail
  have C0 := hide (K2.start w #[.int .i64 11, .int .i64 (c : Int), .int .i64 num, .int .i64 (fk : Int), .int .i64 fn, .int .i64 (ek : Int), .int .i64 en, .int .i64 (tk : Int), .int .i64 tn] 223 #[.bool false, .int .i64 0] 52)
  generalize ((w.alloc (.cells #[.int .i64 11, .int .i64 (c : Int), .int .i64 num, .int .i64 (fk : Int), .int .i64 fn, .int .i64 (ek : Int), .int .i64 en, .int .i64 (tk : Int), .int .i64 tn] 223)).alloc (.cells #[.bool false, .int .i64 0] 52)) = w0 at *
  have k0 : w0.cell? ⟨w.heap.size, 0, none⟩ = some (.int .i64 11) := cell_of_heap C0.out.a 0
  have k1 : w0.cell? ⟨w.heap.size, 1, none⟩ = some (.int .i64 (c : Int)) := cell_of_heap C0.out.a 1
  have H1 := hide (HH.out.below C0.out.bl)
  go_wp2_with fail
  refine (lcol_in H1.out HK.out.ll hc (b - 1) (by omega) _ (by omega)).mono ?_
  rintro e w4 ⟨rfl, e4⟩
  have C4 := hide (C0.out.below e4)
  clear e4 k0 k1
  generalize hs : Pv.colV c (L[b - 1]'(by omega)) = s at *
  have HSV := hide hs
  clear hs
  have z0 : w4.cell? ⟨w.heap.size + 1, 0, none⟩ = some (.bool false) := cell_of_heap C4.out.b 0
  have z1 : w4.cell? ⟨w.heap.size + 1, 1, none⟩ = some (.int .i64 0) := cell_of_heap C4.out.b 1
  have f0 := free_of_heap C4.out.b 0
  have f1 := free_of_heap C4.out.b 1
  obtain ⟨l0, l1⟩ := set2 C4.out.b (.bool true) (.int .i64 s)
  go_wp2
  refine bodyPost_ret (v := .agg #[.bool true, .int .i64 s]) (by simp [results, Tryz.results181, go_sem, l0, l1]) rfl ⟨by rw [HSV.out], ?_⟩
  exact (C4.out.bl.setCell (p := ⟨w.heap.size + 1, 0, none⟩) (by simp) _).setCell (p := ⟨w.heap.size + 1, 1, none⟩) (by simp) _
theorem lover_any {w : World} {g o : Nat} {vk vc : Value} {ks : List (Nat × Bool)} {L : List Pv.R3} (h : LnAt w g o vk vc ks L) (hk : LnOk ks L) (f : Pq.Fn) (h6 : 6 ≤ f.kind) (h12 : f.kind < 12) (hc : f.col < 3) (x y : Int) (hxy : x ≤ y → 1 ≤ x ∧ y ≤ L.length) :
    Calls Tryz.prog 181 #[.pointer (some ⟨g, o, none⟩), fval f, .int .i64 x, .int .i64 y] w fun e w' => e = .returned (vv (Pv.overF f.kind f.col (Pv.segI L x y))) ∧ Below w.heap.size w w' := by
  obtain ⟨k, c, num, ⟨fk, fn, ⟨ek, en⟩, ⟨tk, tn⟩⟩⟩ := f
  simp only at h6 h12 hc ⊢
  by_cases hlt : y < x
  · rw [Pv.segI_none L x y hlt, Pv.over_none]
    by_cases hk6 : k = 6
    · subst hk6
      rw [if_pos rfl]
      exact lover_none0 h hk hc num fn en tn fk ek tk x y hlt
    · rw [if_neg hk6]
      exact lover_none1 h hk hc num fn en tn fk ek tk k hk6 x y hlt
  · obtain ⟨h1, h2⟩ := hxy (by omega)
    obtain ⟨a, rfl⟩ : ∃ a : Nat, x = (a : Int) + 1 := ⟨(x - 1).toNat, by omega⟩
    obtain ⟨b, rfl⟩ : ∃ b : Nat, y = (b : Int) := ⟨y.toNat, by omega⟩
    have hab : a < b := by omega
    have hb : b ≤ L.length := by omega
    have e : Pv.segI L ((a : Int) + 1) (b : Int) = Pv.segR L (a + 1) b := by
      unfold Pv.segI
      rw [show ((a : Int) + 1).toNat = a + 1 by omega, show ((b : Int)).toNat = b by omega]
    rw [e, Pv.over_some hab hb]
    match k, h6, h12 with
    | 6, _, _ => exact lover_count h hk hc num fn en tn fk ek tk a b hab hb
    | 7, _, _ => exact lover_sum h hk hc num fn en tn fk ek tk a b hab hb
    | 8, _, _ => exact lover_min h hk hc num fn en tn fk ek tk a b hab hb
    | 9, _, _ => exact lover_max h hk hc num fn en tn fk ek tk a b hab hb
    | 10, _, _ => exact lover_first h hk hc num fn en tn fk ek tk a b hab hb
    | 11, _, _ => exact lover_last h hk hc num fn en tn fk ek tk a b hab hb
end Go.Proofs.YtcoofnhdbejnpaaGreatDoor

