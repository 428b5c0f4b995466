/- Package paneskeep: columns. -/
import Derived.Test.YtcoofnhdbejnpaaGreatDoorG09
import Derived.Test.YtcoofnhdbejnpaaGreatDoorG44
namespace Go.Proofs.YtcoofnhdbejnpaaGreatDoor
open Go.RowKit
open Pk (TS nxt adv)
theorem Pk.Ln.ok {n : Nat} {x : TS} (h : Pk.Ln n x) (hn : n ≤ 1000000) : LenOk x := ⟨Nat.le_trans h.1 hn, Nat.le_trans h.2 hn⟩
theorem col5 {w : World} {c : Nat} (h : w.heap[c]? = some (.cells #[.string ⟨#[112]⟩, .string ⟨#[107]⟩, .string ⟨#[118]⟩, .string ⟨#[112]⟩, .string ⟨#[107]⟩] 9 (0, 0))) (j : Nat) (hj : j < 5) : w.cell? ⟨c, j, none⟩ = some (.string ⟨(Pk.colW j).toArray⟩) := by
  rw [cell_of_heap h j]
  match j, hj with
  | 0, _ => rfl
  | 1, _ => rfl
  | 2, _ => rfl
  | 3, _ => rfl
  | 4, _ => rfl
set_option maxHeartbeats 2000000 in
theorem cols_false {w : World} {bf bt : Nat} {s : ByteArray} {x : TS} (h : TF w bf bt s x) (hx : Pk.Ln 900000 x) :
    Calls Tryz.prog 53 #[.pointer (some ⟨bt, 0, none⟩), .pointer (some ⟨bf, 0, none⟩), .bool false] w fun e w' => e = .returned (.tuple #[]) ∧ TF w' bf bt s (Pk.colsS s.data.toList false x) ∧ G2 bf bt w w' := by
  have H := hide h
  have HX := hide hx
  have hcf : w.heap.size ≠ bf := Nat.ne_of_gt h.lt.1
  have hct : w.heap.size ≠ bt := Nat.ne_of_gt h.lt.2
  clear h hx
  go_enter Tryz.func53, Tryz.ntmps53
  go_wp2_with fail
  have L0 := hide (heap_alloc_new w (.cells #[.string ⟨#[112]⟩, .string ⟨#[107]⟩, .string ⟨#[118]⟩, .string ⟨#[112]⟩, .string ⟨#[107]⟩] 9 (0, 0)))
  have Q0 := (G2.refl bf bt w).alloc (.cells #[.string ⟨#[112]⟩, .string ⟨#[107]⟩, .string ⟨#[118]⟩, .string ⟨#[112]⟩, .string ⟨#[107]⟩] 9 (0, 0))
  refine (next_any (H.out.alloc _) 3 (by omega) (by omega)).mono ?_
  rintro e w1 ⟨rfl, h1, g1⟩
  have H1 := hide h1
  have Q1 := Q0.trans g1
  have L1 := hide (g1.keep L0.out hcf hct)
  clear h1 g1 L0 Q0
  go_wp2_with fail
  refine (next_any H1.out 3 (by omega) (by omega)).mono ?_
  rintro e w2 ⟨rfl, h2, g2⟩
  have H2 := hide h2
  have Q2 := Q1.trans g2
  have L2 := hide (g2.keep L1.out hcf hct)
  clear h2 g2
  have ha := Pk.nxt_lt s.data.toList x.a 3 (by omega)
  have hn := Pk.nxt_lt s.data.toList (adv s.data.toList x.a) 3 (by omega)
  have HR : Hid (Pk.colsS s.data.toList false x = Pk.colsTo s.data.toList false (nxt s.data.toList x.a 3) (1 + nxt s.data.toList (adv s.data.toList x.a) 3) ((x.eat s.data.toList).eat s.data.toList)) := hide rfl
  have HLN : Hid (∀ k, k ≤ 3 → Pk.Ln 900039 (Pk.colsTo s.data.toList false (nxt s.data.toList x.a 3) k ((x.eat s.data.toList).eat s.data.toList))) := fun k hk => (Pk.Ln.colsTo ((HX.out.eat _).eat _) _ _ _ k).mono (by omega)
  have hnn : (nxt s.data.toList (Pk.TS.eat s.data.toList x).a 3) = nxt s.data.toList (adv s.data.toList x.a) 3 := rfl
  rw [hnn]
  clear hnn H1 L1 Q1 HX
  generalize nxt s.data.toList x.a 3 = a0 at *
  generalize nxt s.data.toList (adv s.data.toList x.a) 3 = n0 at *
  generalize (x.eat s.data.toList).eat s.data.toList = y0 at *
  go_wp2_with fail
  go_loopw [9] (fun i wr => ∃ k : Nat, k ≤ 1 + n0 ∧ i = .int .i64 k ∧ Hid (TF wr bf bt s (Pk.colsTo s.data.toList false a0 k y0)) ∧ G2 bf bt w wr ∧ Hid (wr.heap[w.heap.size]? = some (.cells #[.string ⟨#[112]⟩, .string ⟨#[107]⟩, .string ⟨#[118]⟩, .string ⟨#[112]⟩, .string ⟨#[107]⟩] 9 (0, 0)))) (fun i _ => 1 + n0 - (intOf i).toNat)
  case atStart => exact ⟨0, by omega, rfl, H2.out, Q2, L2.out⟩
  case round =>
    obtain ⟨k, hk, rfl, H3, Q3, L3⟩ := hrel
    by_cases hlt : k < 1 + n0
    · have HE0 : Hid (Pk.colsTo s.data.toList false a0 (k + 1) y0 = Pk.colStep s.data.toList false a0 k (Pk.colsTo s.data.toList false a0 k y0)) := hide rfl
      by_cases hk0 : k = 0
      · have hk0' : ¬ (0 : Int) < (k : Int) := by omega
        have HC : Hid (Pk.commaS s.data.toList k (Pk.colsTo s.data.toList false a0 k y0) = Pk.colsTo s.data.toList false a0 k y0) := by show _ = _; simp only [Pk.commaS, hk0]; rfl
        have HK0 := hide hk0
        clear hk0
        rw [← HC.out] at H3
        clear HC
        have cw := col5 L3.out (a0 + k) (by omega)
        have lw := Pk.colW_len (a0 + k)
        go_wp2_with fail
        refine (word_any H3.out (Pk.colW (a0 + k)) (((HLN.out k (by omega)).comma _ k).ok (by omega)) (by omega)).mono ?_
        rintro e w4 ⟨rfl, h4, g4⟩
        have H4 := hide h4
        have Q4 := Q3.trans g4
        have L4 := hide (g4.keep L3.out hcf hct)
        clear h4 g4
        clear cw lw
        go_wp2
        go_roundw
        case rel => exact ⟨k + 1, by omega, by go_num, H4.out, Q4, L4.out⟩
        case measure => simp [intOf]; omega
      · have hk0' : (0 : Int) < (k : Int) := by omega
        have HC : Hid (Pk.commaS s.data.toList k (Pk.colsTo s.data.toList false a0 k y0) = Pk.gluedS s.data.toList [44] (Pk.colsTo s.data.toList false a0 k y0)) := by show _ = _; simp only [Pk.commaS]; rw [if_pos (by omega)]
        have HK0 := hide hk0
        clear hk0
        go_wp2_with fail
        refine (glued_any H3.out [44] ((HLN.out k (by omega)).ok (by omega)) (by simp)).mono ?_
        rintro e w4 ⟨rfl, h4, g4⟩
        have H4 := hide h4
        have Q4 := Q3.trans g4
        have L4 := hide (g4.keep L3.out hcf hct)
        clear h4 g4
        rw [← HC.out] at H4
        clear HC
        have cw := col5 L4.out (a0 + k) (by omega)
        have lw := Pk.colW_len (a0 + k)
        go_wp2_with fail
        refine (word_any H4.out (Pk.colW (a0 + k)) (((HLN.out k (by omega)).comma _ k).ok (by omega)) (by omega)).mono ?_
        rintro e w5 ⟨rfl, h5, g5⟩
        have H5 := hide h5
        have Q5 := Q4.trans g5
        have L5 := hide (g5.keep L4.out hcf hct)
        clear h5 g5
        clear cw lw
        go_wp2
        go_roundw
        case rel => exact ⟨k + 1, by omega, by go_num, H5.out, Q5, L5.out⟩
        case measure => simp [intOf]; omega
    · have hkn : k = 1 + n0 := by omega
      have HR2 : Hid (Pk.colsS s.data.toList false x = Pk.colsTo s.data.toList false a0 k y0) := by show _ = _; rw [HR.out, hkn]
      clear hkn
      go_wp2
      go_end0
      rw [HR2.out]
      exact ⟨rfl, H3.out, Q3⟩

set_option maxHeartbeats 2000000 in
theorem cols_true {w : World} {bf bt : Nat} {s : ByteArray} {x : TS} (h : TF w bf bt s x) (hx : Pk.Ln 900000 x) :
    Calls Tryz.prog 53 #[.pointer (some ⟨bt, 0, none⟩), .pointer (some ⟨bf, 0, none⟩), .bool true] w fun e w' => e = .returned (.tuple #[]) ∧ TF w' bf bt s (Pk.colsS s.data.toList true x) ∧ G2 bf bt w w' := by
  have H := hide h
  have HX := hide hx
  have hcf : w.heap.size ≠ bf := Nat.ne_of_gt h.lt.1
  have hct : w.heap.size ≠ bt := Nat.ne_of_gt h.lt.2
  clear h hx
  go_enter Tryz.func53, Tryz.ntmps53
  go_wp2_with fail
  have L0 := hide (heap_alloc_new w (.cells #[.string ⟨#[112]⟩, .string ⟨#[107]⟩, .string ⟨#[118]⟩, .string ⟨#[112]⟩, .string ⟨#[107]⟩] 9 (0, 0)))
  have Q0 := (G2.refl bf bt w).alloc (.cells #[.string ⟨#[112]⟩, .string ⟨#[107]⟩, .string ⟨#[118]⟩, .string ⟨#[112]⟩, .string ⟨#[107]⟩] 9 (0, 0))
  refine (next_any (H.out.alloc _) 3 (by omega) (by omega)).mono ?_
  rintro e w1 ⟨rfl, h1, g1⟩
  have H1 := hide h1
  have Q1 := Q0.trans g1
  have L1 := hide (g1.keep L0.out hcf hct)
  clear h1 g1 L0 Q0
  go_wp2_with fail
  refine (next_any H1.out 3 (by omega) (by omega)).mono ?_
  rintro e w2 ⟨rfl, h2, g2⟩
  have H2 := hide h2
  have Q2 := Q1.trans g2
  have L2 := hide (g2.keep L1.out hcf hct)
  clear h2 g2
  have ha := Pk.nxt_lt s.data.toList x.a 3 (by omega)
  have hn := Pk.nxt_lt s.data.toList (adv s.data.toList x.a) 3 (by omega)
  have HR : Hid (Pk.colsS s.data.toList true x = Pk.colsTo s.data.toList true (nxt s.data.toList x.a 3) (1 + nxt s.data.toList (adv s.data.toList x.a) 3) ((x.eat s.data.toList).eat s.data.toList)) := hide rfl
  have HLN : Hid (∀ k, k ≤ 3 → Pk.Ln 900039 (Pk.colsTo s.data.toList true (nxt s.data.toList x.a 3) k ((x.eat s.data.toList).eat s.data.toList))) := fun k hk => (Pk.Ln.colsTo ((HX.out.eat _).eat _) _ _ _ k).mono (by omega)
  have hnn : (nxt s.data.toList (Pk.TS.eat s.data.toList x).a 3) = nxt s.data.toList (adv s.data.toList x.a) 3 := rfl
  rw [hnn]
  clear hnn H1 L1 Q1 HX
  generalize nxt s.data.toList x.a 3 = a0 at *
  generalize nxt s.data.toList (adv s.data.toList x.a) 3 = n0 at *
  generalize (x.eat s.data.toList).eat s.data.toList = y0 at *
  go_wp2_with fail
  go_loopw [9] (fun i wr => ∃ k : Nat, k ≤ 1 + n0 ∧ i = .int .i64 k ∧ Hid (TF wr bf bt s (Pk.colsTo s.data.toList true a0 k y0)) ∧ G2 bf bt w wr ∧ Hid (wr.heap[w.heap.size]? = some (.cells #[.string ⟨#[112]⟩, .string ⟨#[107]⟩, .string ⟨#[118]⟩, .string ⟨#[112]⟩, .string ⟨#[107]⟩] 9 (0, 0)))) (fun i _ => 1 + n0 - (intOf i).toNat)
  case atStart => exact ⟨0, by omega, rfl, H2.out, Q2, L2.out⟩
  case round =>
    obtain ⟨k, hk, rfl, H3, Q3, L3⟩ := hrel
    by_cases hlt : k < 1 + n0
    · have HE0 : Hid (Pk.colsTo s.data.toList true a0 (k + 1) y0 = Pk.colStep s.data.toList true a0 k (Pk.colsTo s.data.toList true a0 k y0)) := hide rfl
      by_cases hk0 : k = 0
      · have hk0' : ¬ (0 : Int) < (k : Int) := by omega
        have HC : Hid (Pk.commaS s.data.toList k (Pk.colsTo s.data.toList true a0 k y0) = Pk.colsTo s.data.toList true a0 k y0) := by show _ = _; simp only [Pk.commaS, hk0]; rfl
        have HK0 := hide hk0
        clear hk0
        rw [← HC.out] at H3
        clear HC
        have cw := col5 L3.out (a0 + k) (by omega)
        have lw := Pk.colW_len (a0 + k)
        go_wp2_with fail
        refine (word_any H3.out (Pk.colW (a0 + k)) (((HLN.out k (by omega)).comma _ k).ok (by omega)) (by omega)).mono ?_
        rintro e w4 ⟨rfl, h4, g4⟩
        have H4 := hide h4
        have Q4 := Q3.trans g4
        have L4 := hide (g4.keep L3.out hcf hct)
        clear h4 g4
        clear cw lw
        go_wp2_with fail
        refine (next_any H4.out 3 (by omega) (by omega)).mono ?_
        rintro e w5 ⟨rfl, h5, g5⟩
        have H5 := hide h5
        have Q5 := Q4.trans g5
        have L5 := hide (g5.keep L4.out hcf hct)
        clear h5 g5
        by_cases hq : nxt s.data.toList (Pk.wordS s.data.toList (Pk.colW (a0 + k)) (Pk.commaS s.data.toList k (Pk.colsTo s.data.toList true a0 k y0))).a 3 = 1
        · have hq' : ((nxt s.data.toList (Pk.wordS s.data.toList (Pk.colW (a0 + k)) (Pk.commaS s.data.toList k (Pk.colsTo s.data.toList true a0 k y0))).a 3 : Int) == 1) = true := by rw [hq]; rfl
          have HE : Hid (Pk.colStep s.data.toList true a0 k (Pk.colsTo s.data.toList true a0 k y0) = Pk.wordS s.data.toList [100, 101, 115, 99] ((Pk.wordS s.data.toList (Pk.colW (a0 + k)) (Pk.commaS s.data.toList k (Pk.colsTo s.data.toList true a0 k y0))).eat s.data.toList)) := by show _ = _; simp only [Pk.colStep, Pk.descS, hq, if_true]
          clear hq
          go_wp2_with fail
          refine (word_any H5.out [100, 101, 115, 99] (((HLN.out k (by omega)).comma _ k |>.word _ (Pk.colW (a0 + k)) (k := 1) (by rw [Pk.colW_len]; omega) |>.eat _).ok (by omega)) (by simp)).mono ?_
          rintro e w6 ⟨rfl, h6, g6⟩
          have H6 := hide h6
          have Q6 := Q5.trans g6
          have L6 := hide (g6.keep L5.out hcf hct)
          clear h6 g6
          rw [← HE.out] at H6
          go_wp2
          go_roundw
          case rel => exact ⟨k + 1, by omega, by go_num, H6.out, Q6, L6.out⟩
          case measure => simp [intOf]; omega
        · have hq' : ((nxt s.data.toList (Pk.wordS s.data.toList (Pk.colW (a0 + k)) (Pk.commaS s.data.toList k (Pk.colsTo s.data.toList true a0 k y0))).a 3 : Int) == 1) = false := by rw [beq_eq_false_iff_ne]; omega
          have HE : Hid (Pk.colStep s.data.toList true a0 k (Pk.colsTo s.data.toList true a0 k y0) = (Pk.wordS s.data.toList (Pk.colW (a0 + k)) (Pk.commaS s.data.toList k (Pk.colsTo s.data.toList true a0 k y0))).eat s.data.toList) := by show _ = _; simp only [Pk.colStep, Pk.descS, if_true, if_neg hq]
          clear hq
          rw [← HE.out] at H5
          go_wp2
          go_roundw
          case rel => exact ⟨k + 1, by omega, by go_num, H5.out, Q5, L5.out⟩
          case measure => simp [intOf]; omega
      · have hk0' : (0 : Int) < (k : Int) := by omega
        have HC : Hid (Pk.commaS s.data.toList k (Pk.colsTo s.data.toList true a0 k y0) = Pk.gluedS s.data.toList [44] (Pk.colsTo s.data.toList true a0 k y0)) := by show _ = _; simp only [Pk.commaS]; rw [if_pos (by omega)]
        have HK0 := hide hk0
        clear hk0
        go_wp2_with fail
        refine (glued_any H3.out [44] ((HLN.out k (by omega)).ok (by omega)) (by simp)).mono ?_
        rintro e w4 ⟨rfl, h4, g4⟩
        have H4 := hide h4
        have Q4 := Q3.trans g4
        have L4 := hide (g4.keep L3.out hcf hct)
        clear h4 g4
        rw [← HC.out] at H4
        clear HC
        have cw := col5 L4.out (a0 + k) (by omega)
        have lw := Pk.colW_len (a0 + k)
        go_wp2_with fail
        refine (word_any H4.out (Pk.colW (a0 + k)) (((HLN.out k (by omega)).comma _ k).ok (by omega)) (by omega)).mono ?_
        rintro e w5 ⟨rfl, h5, g5⟩
        have H5 := hide h5
        have Q5 := Q4.trans g5
        have L5 := hide (g5.keep L4.out hcf hct)
        clear h5 g5
        clear cw lw
        go_wp2_with fail
        refine (next_any H5.out 3 (by omega) (by omega)).mono ?_
        rintro e w6 ⟨rfl, h6, g6⟩
        have H6 := hide h6
        have Q6 := Q5.trans g6
        have L6 := hide (g6.keep L5.out hcf hct)
        clear h6 g6
        by_cases hq : nxt s.data.toList (Pk.wordS s.data.toList (Pk.colW (a0 + k)) (Pk.commaS s.data.toList k (Pk.colsTo s.data.toList true a0 k y0))).a 3 = 1
        · have hq' : ((nxt s.data.toList (Pk.wordS s.data.toList (Pk.colW (a0 + k)) (Pk.commaS s.data.toList k (Pk.colsTo s.data.toList true a0 k y0))).a 3 : Int) == 1) = true := by rw [hq]; rfl
          have HE : Hid (Pk.colStep s.data.toList true a0 k (Pk.colsTo s.data.toList true a0 k y0) = Pk.wordS s.data.toList [100, 101, 115, 99] ((Pk.wordS s.data.toList (Pk.colW (a0 + k)) (Pk.commaS s.data.toList k (Pk.colsTo s.data.toList true a0 k y0))).eat s.data.toList)) := by show _ = _; simp only [Pk.colStep, Pk.descS, hq, if_true]
          clear hq
          go_wp2_with fail
          refine (word_any H6.out [100, 101, 115, 99] (((HLN.out k (by omega)).comma _ k |>.word _ (Pk.colW (a0 + k)) (k := 1) (by rw [Pk.colW_len]; omega) |>.eat _).ok (by omega)) (by simp)).mono ?_
          rintro e w7 ⟨rfl, h7, g7⟩
          have H7 := hide h7
          have Q7 := Q6.trans g7
          have L7 := hide (g7.keep L6.out hcf hct)
          clear h7 g7
          rw [← HE.out] at H7
          go_wp2
          go_roundw
          case rel => exact ⟨k + 1, by omega, by go_num, H7.out, Q7, L7.out⟩
          case measure => simp [intOf]; omega
        · have hq' : ((nxt s.data.toList (Pk.wordS s.data.toList (Pk.colW (a0 + k)) (Pk.commaS s.data.toList k (Pk.colsTo s.data.toList true a0 k y0))).a 3 : Int) == 1) = false := by rw [beq_eq_false_iff_ne]; omega
          have HE : Hid (Pk.colStep s.data.toList true a0 k (Pk.colsTo s.data.toList true a0 k y0) = (Pk.wordS s.data.toList (Pk.colW (a0 + k)) (Pk.commaS s.data.toList k (Pk.colsTo s.data.toList true a0 k y0))).eat s.data.toList) := by show _ = _; simp only [Pk.colStep, Pk.descS, if_true, if_neg hq]
          clear hq
          rw [← HE.out] at H6
          go_wp2
          go_roundw
          case rel => exact ⟨k + 1, by omega, by go_num, H6.out, Q6, L6.out⟩
          case measure => simp [intOf]; omega
    · have hkn : k = 1 + n0 := by omega
      have HR2 : Hid (Pk.colsS s.data.toList true x = Pk.colsTo s.data.toList true a0 k y0) := by show _ = _; rw [HR.out, hkn]
      clear hkn
      go_wp2
      go_end0
      rw [HR2.out]
      exact ⟨rfl, H3.out, Q3⟩

end Go.Proofs.YtcoofnhdbejnpaaGreatDoor

/- Package paneskeep: edges. -/
namespace Go.Proofs.YtcoofnhdbejnpaaGreatDoor
open Go.RowKit
open Pk (TS nxt adv)
theorem edge5 {w : World} {c : Nat} (h : w.heap[c]? = some (.cells #[.string ⟨#[115, 116, 97, 114, 116]⟩, .string ⟨#[101, 110, 100]⟩, .string ⟨#[104, 101, 114, 101]⟩, .string ⟨#[98, 97, 99, 107]⟩, .string ⟨#[111, 110]⟩] 9 (0, 0))) (j : Nat) (hj : j < 5) : w.cell? ⟨c, j, none⟩ = some (.string ⟨(Pk.edgeW j).toArray⟩) := by
  rw [cell_of_heap h j]
  match j, hj with
  | 0, _ => rfl
  | 1, _ => rfl
  | 2, _ => rfl
  | 3, _ => rfl
  | 4, _ => rfl
set_option maxHeartbeats 2000000 in
theorem kedge_any {w : World} {bf bt : Nat} {s : ByteArray} {x : TS} (h : TF w bf bt s x) (hx : Pk.Ln 900200 x) :
    Calls Tryz.prog 83 #[.pointer (some ⟨bt, 0, none⟩), .pointer (some ⟨bf, 0, none⟩)] w fun e w' => e = .returned (.tuple #[]) ∧ TF w' bf bt s (Pk.edgeS s.data.toList x) ∧ G2 bf bt w w' := by
  have H := hide h
  have HX := hide hx
  have hcf : w.heap.size ≠ bf := Nat.ne_of_gt h.lt.1
  have hct : w.heap.size ≠ bt := Nat.ne_of_gt h.lt.2
  clear h hx
  go_enter Tryz.func83, Tryz.ntmps83
  go_wp2_with fail
  have L0 := hide (heap_alloc_new w (.cells #[.string ⟨#[115, 116, 97, 114, 116]⟩, .string ⟨#[101, 110, 100]⟩, .string ⟨#[104, 101, 114, 101]⟩, .string ⟨#[98, 97, 99, 107]⟩, .string ⟨#[111, 110]⟩] 9 (0, 0)))
  have Q0 := (G2.refl bf bt w).alloc (.cells #[.string ⟨#[115, 116, 97, 114, 116]⟩, .string ⟨#[101, 110, 100]⟩, .string ⟨#[104, 101, 114, 101]⟩, .string ⟨#[98, 97, 99, 107]⟩, .string ⟨#[111, 110]⟩] 9 (0, 0))
  refine (next_any (H.out.alloc _) 5 (by omega) (by omega)).mono ?_
  rintro e w1 ⟨rfl, h1, g1⟩
  have H1 := hide h1
  have Q1 := Q0.trans g1
  have L1 := hide (g1.keep L0.out hcf hct)
  clear h1 g1 L0 Q0
  have hk := Pk.nxt_lt s.data.toList x.a 5 (by omega)
  have HE : Hid (Pk.edgeS s.data.toList x = if nxt s.data.toList x.a 5 < 3 then Pk.wordS s.data.toList (Pk.edgeW (nxt s.data.toList x.a 5)) (x.eat s.data.toList) else Pk.wordS s.data.toList (Pk.edgeW (nxt s.data.toList x.a 5)) (Pk.numberS s.data.toList (nxt s.data.toList (adv s.data.toList x.a) 5) true ((x.eat s.data.toList).eat s.data.toList))) := hide rfl
  have hw := Pk.edgeW_len (nxt s.data.toList x.a 5)
  by_cases h3 : nxt s.data.toList x.a 5 < 3
  · have HE2 : Hid (Pk.edgeS s.data.toList x = Pk.wordS s.data.toList (Pk.edgeW (nxt s.data.toList x.a 5)) (x.eat s.data.toList)) := by show _ = _; rw [HE.out, if_pos h3]
    clear HE
    generalize nxt s.data.toList x.a 5 = k at *
    have cw := edge5 L1.out k hk
    go_wp2_with fail
    refine (word_any H1.out (Pk.edgeW k) ((HX.out.eat _).ok (by omega)) (by omega)).mono ?_
    rintro e w2 ⟨rfl, h2, g2⟩
    have H2 := hide h2
    have Q2 := Q1.trans g2
    clear h2 g2
    go_wp2
    ((try simp only [Exit.inBlock, Exit.then]); refine bodyPost_ret (results_none rfl _ _ _) rfl ?_)
    rw [HE2.out]
    exact ⟨rfl, H2.out, Q2⟩
  · have HE2 : Hid (Pk.edgeS s.data.toList x = Pk.wordS s.data.toList (Pk.edgeW (nxt s.data.toList x.a 5)) (Pk.numberS s.data.toList (nxt s.data.toList (adv s.data.toList x.a) 5) true ((x.eat s.data.toList).eat s.data.toList))) := by show _ = _; rw [HE.out, if_neg h3]
    clear HE
    generalize nxt s.data.toList x.a 5 = k at *
    go_wp2_with fail
    refine (next_any H1.out 5 (by omega) (by omega)).mono ?_
    rintro e w2 ⟨rfl, h2, g2⟩
    have H2 := hide h2
    have Q2 := Q1.trans g2
    have L2 := hide (g2.keep L1.out hcf hct)
    clear h2 g2
    have hn5 : nxt s.data.toList (Pk.TS.eat s.data.toList x).a 5 < 5 := Pk.nxt_lt _ _ _ (by omega)
    go_wp2_with fail
    refine (knumber_any H2.out (nxt s.data.toList (Pk.TS.eat s.data.toList x).a 5 : Nat) true (((HX.out.eat _).eat _).ok (by omega)) (by omega) (by omega)).mono ?_
    rintro e w3 ⟨rfl, h3, g3⟩
    have H3 := hide h3
    have Q3 := Q2.trans g3
    have L3 := hide (g3.keep L2.out hcf hct)
    clear h3 g3
    have cw := edge5 L3.out k hk
    go_wp2_with fail
    refine (word_any H3.out (Pk.edgeW k) ((((HX.out.eat _).eat _).number _ _ _).ok (by omega)) (by omega)).mono ?_
    rintro e w4 ⟨rfl, h4, g4⟩
    have H4 := hide h4
    have Q4 := Q3.trans g4
    clear h4 g4
    go_wp2
    go_end0
    rw [HE2.out]
    exact ⟨rfl, H4.out, Q4⟩
end Go.Proofs.YtcoofnhdbejnpaaGreatDoor

