/- Package paneskeep: queries answers true. -/
import Derived.Test.YtcoofnhdbejnpabGreatDoorG41
import Derived.StillTailTactics
import Derived.Test.YtcoofnhdbejnpabGreatDoorG16
namespace Go.Proofs.YtcoofnhdbejnpabGreatDoor
open Go.RowKit
def rankT : Pq.Bytes := [111, 114, 100, 101, 114, 32, 107, 32, 115, 104, 111, 119, 32, 114, 97, 110, 107]
/-- a query with so many blanks behind it -/
def longL (k : Nat) : Pq.Bytes := rankT ++ List.replicate k 32
def longS (k : Nat) : ByteArray := ⟨(longL k).toArray⟩
theorem longS_list (k : Nat) : (longS k).data.toList = longL k := by simp [longS]
theorem longL_len (k : Nat) : (longL k).length = 17 + k := by
  unfold longL
  rw [List.length_append, List.length_replicate]
  rfl
theorem longS_size (k : Nat) : (longS k).size = 17 + k := by rw [← longL_len, ← longS_list]; simp
theorem longS_succ (k : Nat) : longS k ++ (⟨#[32]⟩ : ByteArray) = longS (k + 1) := by
  refine bytes_eq ?_
  have e : (longS k ++ (⟨#[32]⟩ : ByteArray)).data.toList = (longS k).data.toList ++ [32] := by simp
  rw [e, longS_list]
  unfold longL
  rw [List.replicate_succ', List.append_assoc]
theorem longL_take (k : Nat) : (longL (k + 1)).take (17 + k) = longL k := by
  have h : longL (k + 1) = longL k ++ [32] := by
    unfold longL
    rw [List.replicate_succ', List.append_assoc]
  rw [h, List.take_append_of_le_length (by rw [longL_len]; omega), List.take_of_length_le (by rw [longL_len]; omega)]
theorem longS_cut' (k : Nat) : (longS (k + 1)).extract 0 (17 + k) = longS k := by
  rw [extract_eq, longS_list, List.drop_zero, longL_take]
  rfl
theorem longS_cut : (longS 284).extract 0 300 = longS 283 := longS_cut' 283
set_option maxRecDepth 100000 in
theorem long_read : decide (Pq.readE (longL 283) = 0) && decide (Pq.plainTxt (Pq.endPS (longL 283)) = rankT) = true := by decide +kernel
theorem long_ok : planTxt (longL 283) = rankT ∧ Pq.readE (longL 283) = 0 ∧ planP (longL 283) = 0 := by
  have h : Pq.readE (longL 283) = 0 ∧ Pq.plainTxt (Pq.endPS (longL 283)) = rankT := by simpa using long_read
  refine ⟨?_, h.1, ?_⟩
  · unfold planTxt; rw [if_pos h.1]; exact h.2
  · unfold planP; rw [if_pos h.1]
theorem long_bad : Pq.readE (longL 284) = 1 ∧ planP (longL 284) = 0 := by
  have h := Pq.readE_long (l := longL 284) (by rw [longL_len]; omega)
  refine ⟨h.1, ?_⟩
  unfold planP
  rw [if_neg (by rw [h.1]; decide)]
  exact h.2
theorem ref_plan {j : Nat} (h : j < refTab.length) : planTxt refTab[j].1 = [] ∧ planP refTab[j].1 = refTab[j].2.2 := by
  obtain ⟨h1, h2, h3, _⟩ := ref_ok h
  have hne : Pq.readE refTab[j].1 ≠ 0 := by rw [h1]; exact h3
  unfold planTxt planP
  rw [if_neg hne, if_neg hne]
  exact ⟨rfl, h2⟩
theorem arr_list (l : List UInt8) : (⟨l.toArray⟩ : ByteArray).data.toList = l := by simp
def RefAt (w : World) (g : Nat) : Prop := w.heap[g]? = some (.cells (refCells refTab).toArray 104 (0, 0))
theorem RefAt.cells {w : World} {g j : Nat} (h : RefAt w g) (hj : j < refTab.length) : w.cell? ⟨g, j * 3, none⟩ = some (.string ⟨refTab[j].1.toArray⟩) ∧ w.cell? ⟨g, j * 3 + 1, none⟩ = some (.int .i64 refTab[j].2.1) ∧ w.cell? ⟨g, j * 3 + 2, none⟩ = some (.int .i64 refTab[j].2.2) := by
  obtain ⟨h0, h1, h2⟩ := refCells_get refTab j hj
  refine ⟨?_, ?_, ?_⟩
  · rw [cell_of_heap h]; simpa using h0
  · rw [cell_of_heap h]; simpa using h1
  · rw [cell_of_heap h]; simpa using h2
theorem RefAt.below {w w' : World} {g : Nat} (h : RefAt w g) (hb : Below w.heap.size w w') : RefAt w' g := (hb.block g (Array.getElem?_eq_some_iff.1 h).1).trans h
set_option maxRecDepth 100000 in
set_option maxHeartbeats 2000000 in
theorem queries_any (w : World) : Calls Tryz.prog 12 #[] w fun e w' => e = .returned (.bool true) ∧ Below w.heap.size w w' := by
  go_enter Tryz.func12, Tryz.ntmps12
  go_wp2_with fail
  refine (refusals_any w).mono ?_
  rintro e w1 ⟨b1, g, rfl, hblk⟩
  have B1 := hide b1
  have R1 : Hid (RefAt w1 g) := hblk
  clear b1 hblk
  have hT := refTab_len
  go_wp2
  go_loopw [2] (fun i wr => ∃ k : Nat, k ≤ 12 ∧ i = .int .i64 k ∧ Hid (Below w.heap.size w wr) ∧ Hid (RefAt wr g)) (fun i _ => 12 - (intOf i).toNat)
  case atStart => exact ⟨0, by omega, rfl, B1, R1⟩
  case round =>
    obtain ⟨k, hk, rfl, BW, RW⟩ := hrel
    by_cases hlt : k < 12
    · have hlt' : (k : Int) < 12 := by omega
      have hkt : k < refTab.length := by omega
      obtain ⟨c0, c1, c2⟩ := RW.out.cells hkt
      obtain ⟨p1, p2⟩ := ref_plan hkt
      obtain ⟨r1, r2, r3, r4⟩ := ref_ok hkt
      have HP1 := hide p1
      have HP2 := hide p2
      have HR1 := hide r1
      have HR2 := hide r2
      have HR3 := hide r3
      have HC : ∀ W, Hid (RefAt W g → W.cell? ⟨g, k * 3, none⟩ = some (.string ⟨refTab[k].1.toArray⟩) ∧ W.cell? ⟨g, k * 3 + 1, none⟩ = some (.int .i64 refTab[k].2.1) ∧ W.cell? ⟨g, k * 3 + 2, none⟩ = some (.int .i64 refTab[k].2.2)) := fun W h => h.cells hkt
      clear p1 p2 r1 r2 r3
      generalize refTab[k] = r at *
      obtain ⟨tx, er, at'⟩ := r
      simp only [] at *
      go_wp2_with fail
      refine (plan_any ⟨tx.toArray⟩ wr (by show tx.toArray.size ≤ maxLen; unfold maxLen; simp; omega)).mono ?_
      rintro e w2 ⟨rfl, b2⟩
      rw [arr_list, HP1.out, HP2.out, HR1.out]
      have B2 := hide (BW.out.trans (b2.mono BW.out.size))
      have R2 := hide (RW.out.below b2)
      clear b2 c0 c1 c2 BW RW
      obtain ⟨c0, c1, c2⟩ := (HC w2).out R2.out
      go_wp2_with fail
      refine (new_any ⟨tx.toArray⟩ w2 (by show tx.toArray.size ≤ maxLen; unfold maxLen; simp; omega)).mono ?_
      rintro e w3 ⟨b3, ⟨_, rfl⟩ | ⟨h0, _⟩⟩
      · rw [arr_list, HR1.out, HR2.out]
        have B3 := hide (B2.out.trans (b3.mono B2.out.size))
        have R3 := hide (R2.out.below b3)
        clear b3 c0 c1 c2 B2 R2
        obtain ⟨c0, c1, c2⟩ := (HC w3).out R3.out
        go_wp2
        go_roundw
        case rel => exact ⟨k + 1, by omega, by go_num, B3, R3⟩
        case measure => simp [intOf]; omega
      · rw [arr_list, HR1.out] at h0
        exact absurd h0 HR3.out
    · have hlt' : ¬ (k : Int) < 12 := by omega
      generalize wr = wa at *
      have HLG : Hid (longS 0 = ⟨#[111, 114, 100, 101, 114, 32, 107, 32, 115, 104, 111, 119, 32, 114, 97, 110, 107]⟩) := rfl
      go_wp2
      go_loop [9] (fun v => ∃ k : Nat, k ≤ 284 ∧ v = .string (longS k)) (fun v => 301 - strSize v)
      case atStart => exact ⟨0, by omega, rfl⟩
      case round =>
        obtain ⟨k, hk, rfl⟩ := hrel
        have hz := longS_size k
        by_cases hlt : k < 284
        · have hlt' : (((longS k).size : Nat) : Int) ≤ 300 := by omega
          have HSU := longS_succ k
          have hz2 := longS_size (k + 1)
          go_wp2
          go_round
          case rel => exact ⟨k + 1, by omega, rfl⟩
          case measure =>
            show 301 - (longS (k + 1)).size < 301 - (longS k).size
            omega
        · obtain rfl : k = 284 := by omega
          have hlt' : ¬ (((longS 284).size : Nat) : Int) ≤ 300 := by omega
          have HCU := longS_cut
          have HB := hide long_bad
          have HG := hide long_ok
          have hz3 := longS_size 283
          go_wp2_with fail
          refine (plan_any (longS 284) wa (by unfold maxLen; omega)).mono ?_
          rintro e w2 ⟨rfl, b2⟩
          rw [longS_list, HB.out.1, HB.out.2]
          have B2 := hide (BW.out.trans (b2.mono BW.out.size))
          clear b2
          go_wp2_with fail
          refine (plan_any (longS 283) w2 (by unfold maxLen; omega)).mono ?_
          rintro e w3 ⟨rfl, b3⟩
          rw [longS_list, HG.out.1, HG.out.2.1, HG.out.2.2]
          have B3 := hide (B2.out.trans (b3.mono B2.out.size))
          have HRT : rankT = [111, 114, 100, 101, 114, 32, 107, 32, 115, 104, 111, 119, 32, 114, 97, 110, 107] := rfl
          rw [HRT]
          clear b3
          go_wp2
          go_ret
          exact ⟨by simp, B3.out⟩
end Go.Proofs.YtcoofnhdbejnpabGreatDoor

/- Package paneskeep: numbers. -/
namespace Go.Proofs.YtcoofnhdbejnpabGreatDoor
open Go.RowKit
open Pk (TS nxt adv)
set_option maxRecDepth 100000 in
set_option maxHeartbeats 4000000 in
theorem knumber_any {w : World} {bf bt : Nat} {s : ByteArray} {x : TS} (h : TF w bf bt s x) (n : Int) (b : Bool) (hx : LenOk x) (h0 : 0 ≤ n) (h1 : n < 100) :
    Calls Tryz.prog 29 #[.pointer (some ⟨bt, 0, none⟩), .pointer (some ⟨bf, 0, none⟩), .int .i64 n, .bool b] w fun e w' => e = .returned (.tuple #[]) ∧ TF w' bf bt s (Pk.numberS s.data.toList n.toNat b x) ∧ G2 bf bt w w' := by
  have H := hide h
  obtain ⟨c0, c1, c2, c3⟩ := h.cells
  obtain ⟨z0, z1, z2⟩ := h.free
  obtain ⟨l1, l2⟩ := hx
  have hne := h.ne
  have hne' := h.ne.symm
  have hl := Pq.numTxt_len n
  clear h
  have hnn : ((n.toNat : Nat) : Int) = n := by omega
  have HNN := hide hnn
  clear hnn
  cases b
  · by_cases h10 : n < 10
    · have H10 : Hid (n.toNat < 10) := by show _ < _; omega
      by_cases hq : nxt s.data.toList x.a 3 = 1
      · have hq' : ((nxt s.data.toList x.a 3 : Int) == 1) = true := by rw [hq]; rfl
        have HNS : Hid (Pk.numberS s.data.toList n.toNat false x = ⟨adv s.data.toList x.a, x.raw ++ [48] ++ Pq.numTxt n, x.plain ++ Pq.numTxt n⟩) := by show _ = _; simp [Pk.numberS, Pk.nought, Pk.blankB, H10.out, hq, HNN.out]
        clear hq
        go_enter Tryz.func29, Tryz.ntmps29
        go_wp2_with fail
        have H0 := H
        have G0 := G2.refl bf bt w
        refine (next_any H0.out 3 (by omega) (by omega)).mono ?_
        rintro e w1 ⟨rfl, h1, g1⟩
        have H1 : Hid (TF w1 bf bt s ⟨adv s.data.toList x.a, x.raw, x.plain⟩) := h1
        have G1 := G0.trans g1
        clear h1 g1 c0 c1 c2 c3 z0 z1 z2 H0 G0
        obtain ⟨c0, c1, c2, c3⟩ := H1.out.cells
        obtain ⟨z0, z1, z2⟩ := H1.out.free
        go_wp2_with fail
        have H2 := hide ((H1.out.setRaw (⟨(x.raw).toArray⟩ ++ ⟨#[48]⟩)).is (show _ = (⟨adv s.data.toList x.a, x.raw ++ [48], x.plain⟩ : TS) by simp))
        have G2' := G1.setT 0 (.string (⟨(x.raw).toArray⟩ ++ ⟨#[48]⟩))
        have G3 := G2'
        have H3 := H2
        clear c0 c1 c2 c3 z0 z1 z2 G2' H2
        generalize w1.setCell ⟨bt, 0, none⟩ (.string (⟨(x.raw).toArray⟩ ++ ⟨#[48]⟩)) = w3 at *
        have m1 : (x.raw ++ [48]).length ≤ 1000010 := by simp; omega
        have m2 : (x.plain).length ≤ 1000010 := by omega
        obtain ⟨c0, c1, c2, c3⟩ := H3.out.cells
        obtain ⟨z0, z1, z2⟩ := H3.out.free
        simp only [] at c2 c3
        go_still_tail 8, (by kernel_rfl)
        still_call ((itoa_any n h0 h1 _).mono (by rintro e w4 ⟨rfl, rfl⟩; exact ⟨rfl, rfl⟩))
        refine wpStill_step (fun K hK => ?_)
        go_simp
        rw [if_neg (by omega)]
        refine ⟨rfl, hK _ ?_⟩
        clear hK K
        refine wpStill_nil ?_
        all_goals
          go_wp2_with fail
          have H4 := hide (((H3.out.setRaw (⟨(x.raw ++ [48]).toArray⟩ ++ ⟨(Pq.numTxt n).toArray⟩)).drew).is (show _ = (⟨(adv s.data.toList x.a), x.raw ++ [48] ++ Pq.numTxt n, x.plain⟩ : TS) by simp))
          have G4 := (G3.setT 0 (.string (⟨(x.raw ++ [48]).toArray⟩ ++ ⟨(Pq.numTxt n).toArray⟩))).drew
          clear c0 c1 c2 c3 z0 z1 z2 H3 G3
          generalize (w3.setCell ⟨bt, 0, none⟩ (.string (⟨(x.raw ++ [48]).toArray⟩ ++ ⟨(Pq.numTxt n).toArray⟩))).drew = w5 at *
          obtain ⟨c0, c1, c2, c3⟩ := H4.out.cells
          obtain ⟨z0, z1, z2⟩ := H4.out.free
          simp only [] at c2 c3
          go_still_tail 8, (by kernel_rfl)
          still_call ((itoa_any n h0 h1 _).mono (by rintro e w4 ⟨rfl, rfl⟩; exact ⟨rfl, rfl⟩))
          refine wpStill_step (fun K hK => ?_)
          go_simp
          rw [if_neg (by omega)]
          refine ⟨rfl, hK _ ?_⟩
          clear hK K
          refine wpStill_nil ?_
          all_goals
            go_wp2
            go_end0
            refine ⟨rfl, ((H4.out.setPlain _).drew).is ?_, (G4.setT _ _).drew⟩
            rw [HNS.out]; simp
      · have hq' : ((nxt s.data.toList x.a 3 : Int) == 1) = false := by rw [beq_eq_false_iff_ne]; omega
        have HNS : Hid (Pk.numberS s.data.toList n.toNat false x = ⟨adv s.data.toList x.a, x.raw ++ Pq.numTxt n, x.plain ++ Pq.numTxt n⟩) := by show _ = _; simp [Pk.numberS, Pk.nought, Pk.blankB, H10.out, hq, HNN.out]
        clear hq
        go_enter Tryz.func29, Tryz.ntmps29
        go_wp2_with fail
        have H0 := H
        have G0 := G2.refl bf bt w
        refine (next_any H0.out 3 (by omega) (by omega)).mono ?_
        rintro e w1 ⟨rfl, h1, g1⟩
        have H1 : Hid (TF w1 bf bt s ⟨adv s.data.toList x.a, x.raw, x.plain⟩) := h1
        have G1 := G0.trans g1
        clear h1 g1 c0 c1 c2 c3 z0 z1 z2 H0 G0
        obtain ⟨c0, c1, c2, c3⟩ := H1.out.cells
        obtain ⟨z0, z1, z2⟩ := H1.out.free
        go_wp2_with fail
        have H2 := H1
        have G2' := G1
        have G3 := G2'
        have H3 := H2
        clear c0 c1 c2 c3 z0 z1 z2 G2' H2
        have m1 : (x.raw).length ≤ 1000010 := by omega
        have m2 : (x.plain).length ≤ 1000010 := by omega
        obtain ⟨c0, c1, c2, c3⟩ := H3.out.cells
        obtain ⟨z0, z1, z2⟩ := H3.out.free
        simp only [] at c2 c3
        go_still_tail 8, (by kernel_rfl)
        still_call ((itoa_any n h0 h1 _).mono (by rintro e w4 ⟨rfl, rfl⟩; exact ⟨rfl, rfl⟩))
        refine wpStill_step (fun K hK => ?_)
        go_simp
        rw [if_neg (by omega)]
        refine ⟨rfl, hK _ ?_⟩
        clear hK K
        refine wpStill_nil ?_
        all_goals
          go_wp2_with fail
          have H4 := hide (((H3.out.setRaw (⟨(x.raw).toArray⟩ ++ ⟨(Pq.numTxt n).toArray⟩)).drew).is (show _ = (⟨(adv s.data.toList x.a), x.raw ++ Pq.numTxt n, x.plain⟩ : TS) by simp))
          have G4 := (G3.setT 0 (.string (⟨(x.raw).toArray⟩ ++ ⟨(Pq.numTxt n).toArray⟩))).drew
          clear c0 c1 c2 c3 z0 z1 z2 H3 G3
          generalize (w1.setCell ⟨bt, 0, none⟩ (.string (⟨(x.raw).toArray⟩ ++ ⟨(Pq.numTxt n).toArray⟩))).drew = w5 at *
          obtain ⟨c0, c1, c2, c3⟩ := H4.out.cells
          obtain ⟨z0, z1, z2⟩ := H4.out.free
          simp only [] at c2 c3
          go_still_tail 8, (by kernel_rfl)
          still_call ((itoa_any n h0 h1 _).mono (by rintro e w4 ⟨rfl, rfl⟩; exact ⟨rfl, rfl⟩))
          refine wpStill_step (fun K hK => ?_)
          go_simp
          rw [if_neg (by omega)]
          refine ⟨rfl, hK _ ?_⟩
          clear hK K
          refine wpStill_nil ?_
          all_goals
            go_wp2
            go_end0
            refine ⟨rfl, ((H4.out.setPlain _).drew).is ?_, (G4.setT _ _).drew⟩
            rw [HNS.out]; simp
    · have H10 : Hid (¬ n.toNat < 10) := by show ¬ _; omega
      have HNS : Hid (Pk.numberS s.data.toList n.toNat false x = ⟨x.a, x.raw ++ Pq.numTxt n, x.plain ++ Pq.numTxt n⟩) := by show _ = _; simp [Pk.numberS, Pk.nought, Pk.blankB, H10.out, HNN.out]
      go_enter Tryz.func29, Tryz.ntmps29
      go_wp2_with fail
      have H2 : Hid (TF w bf bt s ⟨x.a, x.raw, x.plain⟩) := H
      have G2' := G2.refl bf bt w
      have G3 := G2'
      have H3 := H2
      clear c0 c1 c2 c3 z0 z1 z2 G2' H2
      have m1 : (x.raw).length ≤ 1000010 := by omega
      have m2 : (x.plain).length ≤ 1000010 := by omega
      obtain ⟨c0, c1, c2, c3⟩ := H3.out.cells
      obtain ⟨z0, z1, z2⟩ := H3.out.free
      simp only [] at c2 c3
      go_still_tail 8, (by kernel_rfl)
      still_call ((itoa_any n h0 h1 _).mono (by rintro e w4 ⟨rfl, rfl⟩; exact ⟨rfl, rfl⟩))
      refine wpStill_step (fun K hK => ?_)
      go_simp
      rw [if_neg (by omega)]
      refine ⟨rfl, hK _ ?_⟩
      clear hK K
      refine wpStill_nil ?_
      all_goals
        go_wp2_with fail
        have H4 := hide (((H3.out.setRaw (⟨(x.raw).toArray⟩ ++ ⟨(Pq.numTxt n).toArray⟩)).drew).is (show _ = (⟨x.a, x.raw ++ Pq.numTxt n, x.plain⟩ : TS) by simp))
        have G4 := (G3.setT 0 (.string (⟨(x.raw).toArray⟩ ++ ⟨(Pq.numTxt n).toArray⟩))).drew
        clear c0 c1 c2 c3 z0 z1 z2 H3 G3
        generalize (w.setCell ⟨bt, 0, none⟩ (.string (⟨(x.raw).toArray⟩ ++ ⟨(Pq.numTxt n).toArray⟩))).drew = w5 at *
        obtain ⟨c0, c1, c2, c3⟩ := H4.out.cells
        obtain ⟨z0, z1, z2⟩ := H4.out.free
        simp only [] at c2 c3
        go_still_tail 8, (by kernel_rfl)
        still_call ((itoa_any n h0 h1 _).mono (by rintro e w4 ⟨rfl, rfl⟩; exact ⟨rfl, rfl⟩))
        refine wpStill_step (fun K hK => ?_)
        go_simp
        rw [if_neg (by omega)]
        refine ⟨rfl, hK _ ?_⟩
        clear hK K
        refine wpStill_nil ?_
        all_goals
          go_wp2
          go_end0
          refine ⟨rfl, ((H4.out.setPlain _).drew).is ?_, (G4.setT _ _).drew⟩
          rw [HNS.out]; simp
  · by_cases h10 : n < 10
    · have H10 : Hid (n.toNat < 10) := by show _ < _; omega
      by_cases hq : nxt s.data.toList x.a 3 = 1
      · have hq' : ((nxt s.data.toList x.a 3 : Int) == 1) = true := by rw [hq]; rfl
        have HNS : Hid (Pk.numberS s.data.toList n.toNat true x = ⟨adv s.data.toList x.a, x.raw ++ [32] ++ [48] ++ Pq.numTxt n, x.plain ++ [32] ++ Pq.numTxt n⟩) := by show _ = _; simp [Pk.numberS, Pk.nought, Pk.blankB, H10.out, hq, HNN.out]
        clear hq
        go_enter Tryz.func29, Tryz.ntmps29
        go_wp2_with fail
        have H0 := hide (((H.out.setRaw (⟨x.raw.toArray⟩ ++ ⟨#[32]⟩)).setPlain (⟨x.plain.toArray⟩ ++ ⟨#[32]⟩)).is (show _ = (⟨x.a, x.raw ++ [32], x.plain ++ [32]⟩ : TS) by simp))
        have G0 := ((G2.refl bf bt w).setT 0 (.string (⟨x.raw.toArray⟩ ++ ⟨#[32]⟩))).setT 1 (.string (⟨x.plain.toArray⟩ ++ ⟨#[32]⟩))
        refine (next_any H0.out 3 (by omega) (by omega)).mono ?_
        rintro e w1 ⟨rfl, h1, g1⟩
        have H1 : Hid (TF w1 bf bt s ⟨adv s.data.toList x.a, x.raw ++ [32], x.plain ++ [32]⟩) := h1
        have G1 := G0.trans g1
        clear h1 g1 c0 c1 c2 c3 z0 z1 z2 H0 G0
        obtain ⟨c0, c1, c2, c3⟩ := H1.out.cells
        obtain ⟨z0, z1, z2⟩ := H1.out.free
        go_wp2_with fail
        have H2 := hide ((H1.out.setRaw (⟨(x.raw ++ [32]).toArray⟩ ++ ⟨#[48]⟩)).is (show _ = (⟨adv s.data.toList x.a, x.raw ++ [32, 48], x.plain ++ [32]⟩ : TS) by simp))
        have G2' := G1.setT 0 (.string (⟨(x.raw ++ [32]).toArray⟩ ++ ⟨#[48]⟩))
        have G3 := G2'
        have H3 := H2
        clear c0 c1 c2 c3 z0 z1 z2 G2' H2
        generalize w1.setCell ⟨bt, 0, none⟩ (.string (⟨(x.raw ++ [32]).toArray⟩ ++ ⟨#[48]⟩)) = w3 at *
        have m1 : (x.raw ++ [32, 48]).length ≤ 1000010 := by simp; omega
        have m2 : (x.plain ++ [32]).length ≤ 1000010 := by simp; omega
        obtain ⟨c0, c1, c2, c3⟩ := H3.out.cells
        obtain ⟨z0, z1, z2⟩ := H3.out.free
        simp only [] at c2 c3
        go_still_tail 8, (by kernel_rfl)
        still_call ((itoa_any n h0 h1 _).mono (by rintro e w4 ⟨rfl, rfl⟩; exact ⟨rfl, rfl⟩))
        refine wpStill_step (fun K hK => ?_)
        go_simp
        rw [if_neg (by omega)]
        refine ⟨rfl, hK _ ?_⟩
        clear hK K
        refine wpStill_nil ?_
        all_goals
          go_wp2_with fail
          have H4 := hide (((H3.out.setRaw (⟨(x.raw ++ [32, 48]).toArray⟩ ++ ⟨(Pq.numTxt n).toArray⟩)).drew).is (show _ = (⟨(adv s.data.toList x.a), x.raw ++ [32, 48] ++ Pq.numTxt n, x.plain ++ [32]⟩ : TS) by simp))
          have G4 := (G3.setT 0 (.string (⟨(x.raw ++ [32, 48]).toArray⟩ ++ ⟨(Pq.numTxt n).toArray⟩))).drew
          clear c0 c1 c2 c3 z0 z1 z2 H3 G3
          generalize (w3.setCell ⟨bt, 0, none⟩ (.string (⟨(x.raw ++ [32, 48]).toArray⟩ ++ ⟨(Pq.numTxt n).toArray⟩))).drew = w5 at *
          obtain ⟨c0, c1, c2, c3⟩ := H4.out.cells
          obtain ⟨z0, z1, z2⟩ := H4.out.free
          simp only [] at c2 c3
          go_still_tail 8, (by kernel_rfl)
          still_call ((itoa_any n h0 h1 _).mono (by rintro e w4 ⟨rfl, rfl⟩; exact ⟨rfl, rfl⟩))
          refine wpStill_step (fun K hK => ?_)
          go_simp
          rw [if_neg (by omega)]
          refine ⟨rfl, hK _ ?_⟩
          clear hK K
          refine wpStill_nil ?_
          all_goals
            go_wp2
            go_end0
            refine ⟨rfl, ((H4.out.setPlain _).drew).is ?_, (G4.setT _ _).drew⟩
            rw [HNS.out]; simp
      · have hq' : ((nxt s.data.toList x.a 3 : Int) == 1) = false := by rw [beq_eq_false_iff_ne]; omega
        have HNS : Hid (Pk.numberS s.data.toList n.toNat true x = ⟨adv s.data.toList x.a, x.raw ++ [32] ++ Pq.numTxt n, x.plain ++ [32] ++ Pq.numTxt n⟩) := by show _ = _; simp [Pk.numberS, Pk.nought, Pk.blankB, H10.out, hq, HNN.out]
        clear hq
        go_enter Tryz.func29, Tryz.ntmps29
        go_wp2_with fail
        have H0 := hide (((H.out.setRaw (⟨x.raw.toArray⟩ ++ ⟨#[32]⟩)).setPlain (⟨x.plain.toArray⟩ ++ ⟨#[32]⟩)).is (show _ = (⟨x.a, x.raw ++ [32], x.plain ++ [32]⟩ : TS) by simp))
        have G0 := ((G2.refl bf bt w).setT 0 (.string (⟨x.raw.toArray⟩ ++ ⟨#[32]⟩))).setT 1 (.string (⟨x.plain.toArray⟩ ++ ⟨#[32]⟩))
        refine (next_any H0.out 3 (by omega) (by omega)).mono ?_
        rintro e w1 ⟨rfl, h1, g1⟩
        have H1 : Hid (TF w1 bf bt s ⟨adv s.data.toList x.a, x.raw ++ [32], x.plain ++ [32]⟩) := h1
        have G1 := G0.trans g1
        clear h1 g1 c0 c1 c2 c3 z0 z1 z2 H0 G0
        obtain ⟨c0, c1, c2, c3⟩ := H1.out.cells
        obtain ⟨z0, z1, z2⟩ := H1.out.free
        go_wp2_with fail
        have H2 := H1
        have G2' := G1
        have G3 := G2'
        have H3 := H2
        clear c0 c1 c2 c3 z0 z1 z2 G2' H2
        have m1 : (x.raw ++ [32]).length ≤ 1000010 := by simp; omega
        have m2 : (x.plain ++ [32]).length ≤ 1000010 := by simp; omega
        obtain ⟨c0, c1, c2, c3⟩ := H3.out.cells
        obtain ⟨z0, z1, z2⟩ := H3.out.free
        simp only [] at c2 c3
        go_still_tail 8, (by kernel_rfl)
        still_call ((itoa_any n h0 h1 _).mono (by rintro e w4 ⟨rfl, rfl⟩; exact ⟨rfl, rfl⟩))
        refine wpStill_step (fun K hK => ?_)
        go_simp
        rw [if_neg (by omega)]
        refine ⟨rfl, hK _ ?_⟩
        clear hK K
        refine wpStill_nil ?_
        all_goals
          go_wp2_with fail
          have H4 := hide (((H3.out.setRaw (⟨(x.raw ++ [32]).toArray⟩ ++ ⟨(Pq.numTxt n).toArray⟩)).drew).is (show _ = (⟨(adv s.data.toList x.a), x.raw ++ [32] ++ Pq.numTxt n, x.plain ++ [32]⟩ : TS) by simp))
          have G4 := (G3.setT 0 (.string (⟨(x.raw ++ [32]).toArray⟩ ++ ⟨(Pq.numTxt n).toArray⟩))).drew
          clear c0 c1 c2 c3 z0 z1 z2 H3 G3
          generalize (w1.setCell ⟨bt, 0, none⟩ (.string (⟨(x.raw ++ [32]).toArray⟩ ++ ⟨(Pq.numTxt n).toArray⟩))).drew = w5 at *
          obtain ⟨c0, c1, c2, c3⟩ := H4.out.cells
          obtain ⟨z0, z1, z2⟩ := H4.out.free
          simp only [] at c2 c3
          go_still_tail 8, (by kernel_rfl)
          still_call ((itoa_any n h0 h1 _).mono (by rintro e w4 ⟨rfl, rfl⟩; exact ⟨rfl, rfl⟩))
          refine wpStill_step (fun K hK => ?_)
          go_simp
          rw [if_neg (by omega)]
          refine ⟨rfl, hK _ ?_⟩
          clear hK K
          refine wpStill_nil ?_
          all_goals
            go_wp2
            go_end0
            refine ⟨rfl, ((H4.out.setPlain _).drew).is ?_, (G4.setT _ _).drew⟩
            rw [HNS.out]; simp
    · have H10 : Hid (¬ n.toNat < 10) := by show ¬ _; omega
      have HNS : Hid (Pk.numberS s.data.toList n.toNat true x = ⟨x.a, x.raw ++ [32] ++ Pq.numTxt n, x.plain ++ [32] ++ Pq.numTxt n⟩) := by show _ = _; simp [Pk.numberS, Pk.nought, Pk.blankB, H10.out, HNN.out]
      go_enter Tryz.func29, Tryz.ntmps29
      go_wp2_with fail
      have H2 := hide (((H.out.setRaw (⟨x.raw.toArray⟩ ++ ⟨#[32]⟩)).setPlain (⟨x.plain.toArray⟩ ++ ⟨#[32]⟩)).is (show _ = (⟨x.a, x.raw ++ [32], x.plain ++ [32]⟩ : TS) by simp))
      have G2' := ((G2.refl bf bt w).setT 0 (.string (⟨x.raw.toArray⟩ ++ ⟨#[32]⟩))).setT 1 (.string (⟨x.plain.toArray⟩ ++ ⟨#[32]⟩))
      have G3 := G2'
      have H3 := H2
      clear c0 c1 c2 c3 z0 z1 z2 G2' H2
      generalize (w.setCell ⟨bt, 0, none⟩ (.string (⟨x.raw.toArray⟩ ++ ⟨#[32]⟩))).setCell ⟨bt, 1, none⟩ (.string (⟨x.plain.toArray⟩ ++ ⟨#[32]⟩)) = w3 at *
      have m1 : (x.raw ++ [32]).length ≤ 1000010 := by simp; omega
      have m2 : (x.plain ++ [32]).length ≤ 1000010 := by simp; omega
      obtain ⟨c0, c1, c2, c3⟩ := H3.out.cells
      obtain ⟨z0, z1, z2⟩ := H3.out.free
      simp only [] at c2 c3
      go_still_tail 8, (by kernel_rfl)
      still_call ((itoa_any n h0 h1 _).mono (by rintro e w4 ⟨rfl, rfl⟩; exact ⟨rfl, rfl⟩))
      refine wpStill_step (fun K hK => ?_)
      go_simp
      rw [if_neg (by omega)]
      refine ⟨rfl, hK _ ?_⟩
      clear hK K
      refine wpStill_nil ?_
      all_goals
        go_wp2_with fail
        have H4 := hide (((H3.out.setRaw (⟨(x.raw ++ [32]).toArray⟩ ++ ⟨(Pq.numTxt n).toArray⟩)).drew).is (show _ = (⟨x.a, x.raw ++ [32] ++ Pq.numTxt n, x.plain ++ [32]⟩ : TS) by simp))
        have G4 := (G3.setT 0 (.string (⟨(x.raw ++ [32]).toArray⟩ ++ ⟨(Pq.numTxt n).toArray⟩))).drew
        clear c0 c1 c2 c3 z0 z1 z2 H3 G3
        generalize (w3.setCell ⟨bt, 0, none⟩ (.string (⟨(x.raw ++ [32]).toArray⟩ ++ ⟨(Pq.numTxt n).toArray⟩))).drew = w5 at *
        obtain ⟨c0, c1, c2, c3⟩ := H4.out.cells
        obtain ⟨z0, z1, z2⟩ := H4.out.free
        simp only [] at c2 c3
        go_still_tail 8, (by kernel_rfl)
        still_call ((itoa_any n h0 h1 _).mono (by rintro e w4 ⟨rfl, rfl⟩; exact ⟨rfl, rfl⟩))
        refine wpStill_step (fun K hK => ?_)
        go_simp
        rw [if_neg (by omega)]
        refine ⟨rfl, hK _ ?_⟩
        clear hK K
        refine wpStill_nil ?_
        all_goals
          go_wp2
          go_end0
          refine ⟨rfl, ((H4.out.setPlain _).drew).is ?_, (G4.setT _ _).drew⟩
          rw [HNS.out]; simp
end Go.Proofs.YtcoofnhdbejnpabGreatDoor

