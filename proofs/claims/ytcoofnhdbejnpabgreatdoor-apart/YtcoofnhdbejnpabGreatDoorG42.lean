/- Package paneskeep: numbers. -/
import Derived.StillTailTactics
import Derived.Test.YtcoofnhdbejnpabGreatDoorG16
namespace Go.Proofs.YtcoofnhdbejnpabGreatDoor
open Go.RowKit
open Pk (TS nxt adv)
set_option maxRecDepth 100000 in
set_option maxHeartbeats 4000000 in
theorem knumber_any {w : World} {bf bt : Nat} {s : ByteArray} {x : TS} (h : TF w bf bt s x) (n : Int) (b : Bool) (hx : LenOk x) (h0 : 0 ≤ n) (h1 : n < 100) :
    Calls Tryz.prog 29 #[.pointer (some ⟨bt, 0, none⟩), .pointer (some ⟨bf, 0, none⟩), .int .i64 n, .bool b] w fun e w' => e = .returned (.tuple #[]) ∧ TF w' bf bt s (Pk.numberS s.data.toList n.toNat b x) ∧ G2 bf bt w w' := by
  have H := hide h
  obtain ⟨c0, c1, c2, c3⟩ := h.cells
  obtain ⟨z0, z1, z2⟩ := h.free
  obtain ⟨l1, l2⟩ := hx
  have hne := h.ne
  have hne' := h.ne.symm
  have hl := Pq.numTxt_len n
  clear h
  have hnn : ((n.toNat : Nat) : Int) = n := by omega
  have HNN := hide hnn
  clear hnn
  cases b
  · by_cases h10 : n < 10
    · have H10 : Hid (n.toNat < 10) := by show _ < _; omega
      by_cases hq : nxt s.data.toList x.a 3 = 1
      · have hq' : ((nxt s.data.toList x.a 3 : Int) == 1) = true := by rw [hq]; rfl
        have HNS : Hid (Pk.numberS s.data.toList n.toNat false x = ⟨adv s.data.toList x.a, x.raw ++ [48] ++ Pq.numTxt n, x.plain ++ Pq.numTxt n⟩) := by show _ = _; simp [Pk.numberS, Pk.nought, Pk.blankB, H10.out, hq, HNN.out]
        clear hq
        go_enter Tryz.func29, Tryz.ntmps29
        go_wp2_with fail
        have H0 := H
        have G0 := G2.refl bf bt w
        refine (next_any H0.out 3 (by omega) (by omega)).mono ?_
        rintro e w1 ⟨rfl, h1, g1⟩
        have H1 : Hid (TF w1 bf bt s ⟨adv s.data.toList x.a, x.raw, x.plain⟩) := h1
        have G1 := G0.trans g1
        clear h1 g1 c0 c1 c2 c3 z0 z1 z2 H0 G0
        obtain ⟨c0, c1, c2, c3⟩ := H1.out.cells
        obtain ⟨z0, z1, z2⟩ := H1.out.free
        go_wp2_with fail
        have H2 := hide ((H1.out.setRaw (⟨(x.raw).toArray⟩ ++ ⟨#[48]⟩)).is (show _ = (⟨adv s.data.toList x.a, x.raw ++ [48], x.plain⟩ : TS) by simp))
        have G2' := G1.setT 0 (.string (⟨(x.raw).toArray⟩ ++ ⟨#[48]⟩))
        have G3 := G2'
        have H3 := H2
        clear c0 c1 c2 c3 z0 z1 z2 G2' H2
        generalize w1.setCell ⟨bt, 0, none⟩ (.string (⟨(x.raw).toArray⟩ ++ ⟨#[48]⟩)) = w3 at *
        have m1 : (x.raw ++ [48]).length ≤ 1000010 := by simp; omega
        have m2 : (x.plain).length ≤ 1000010 := by omega
        obtain ⟨c0, c1, c2, c3⟩ := H3.out.cells
        obtain ⟨z0, z1, z2⟩ := H3.out.free
        simp only [] at c2 c3
        go_still_tail 8, (by kernel_rfl)
        still_call ((itoa_any n h0 h1 _).mono (by rintro e w4 ⟨rfl, rfl⟩; exact ⟨rfl, rfl⟩))
        refine wpStill_step (fun K hK => ?_)
        go_simp
        rw [if_neg (by omega)]
        refine ⟨rfl, hK _ ?_⟩
        clear hK K
        refine wpStill_nil ?_
        all_goals
          go_wp2_with fail
          have H4 := hide (((H3.out.setRaw (⟨(x.raw ++ [48]).toArray⟩ ++ ⟨(Pq.numTxt n).toArray⟩)).drew).is (show _ = (⟨(adv s.data.toList x.a), x.raw ++ [48] ++ Pq.numTxt n, x.plain⟩ : TS) by simp))
          have G4 := (G3.setT 0 (.string (⟨(x.raw ++ [48]).toArray⟩ ++ ⟨(Pq.numTxt n).toArray⟩))).drew
          clear c0 c1 c2 c3 z0 z1 z2 H3 G3
          generalize (w3.setCell ⟨bt, 0, none⟩ (.string (⟨(x.raw ++ [48]).toArray⟩ ++ ⟨(Pq.numTxt n).toArray⟩))).drew = w5 at *
          obtain ⟨c0, c1, c2, c3⟩ := H4.out.cells
          obtain ⟨z0, z1, z2⟩ := H4.out.free
          simp only [] at c2 c3
          go_still_tail 8, (by kernel_rfl)
          still_call ((itoa_any n h0 h1 _).mono (by rintro e w4 ⟨rfl, rfl⟩; exact ⟨rfl, rfl⟩))
          refine wpStill_step (fun K hK => ?_)
          go_simp
          rw [if_neg (by omega)]
          refine ⟨rfl, hK _ ?_⟩
          clear hK K
          refine wpStill_nil ?_
          all_goals
            go_wp2
            go_end0
            refine ⟨rfl, ((H4.out.setPlain _).drew).is ?_, (G4.setT _ _).drew⟩
            rw [HNS.out]; simp
      · have hq' : ((nxt s.data.toList x.a 3 : Int) == 1) = false := by rw [beq_eq_false_iff_ne]; omega
        have HNS : Hid (Pk.numberS s.data.toList n.toNat false x = ⟨adv s.data.toList x.a, x.raw ++ Pq.numTxt n, x.plain ++ Pq.numTxt n⟩) := by show _ = _; simp [Pk.numberS, Pk.nought, Pk.blankB, H10.out, hq, HNN.out]
        clear hq
        go_enter Tryz.func29, Tryz.ntmps29
        go_wp2_with fail
        have H0 := H
        have G0 := G2.refl bf bt w
        refine (next_any H0.out 3 (by omega) (by omega)).mono ?_
        rintro e w1 ⟨rfl, h1, g1⟩
        have H1 : Hid (TF w1 bf bt s ⟨adv s.data.toList x.a, x.raw, x.plain⟩) := h1
        have G1 := G0.trans g1
        clear h1 g1 c0 c1 c2 c3 z0 z1 z2 H0 G0
        obtain ⟨c0, c1, c2, c3⟩ := H1.out.cells
        obtain ⟨z0, z1, z2⟩ := H1.out.free
        go_wp2_with fail
        have H2 := H1
        have G2' := G1
        have G3 := G2'
        have H3 := H2
        clear c0 c1 c2 c3 z0 z1 z2 G2' H2
        have m1 : (x.raw).length ≤ 1000010 := by omega
        have m2 : (x.plain).length ≤ 1000010 := by omega
        obtain ⟨c0, c1, c2, c3⟩ := H3.out.cells
        obtain ⟨z0, z1, z2⟩ := H3.out.free
        simp only [] at c2 c3
        go_still_tail 8, (by kernel_rfl)
        still_call ((itoa_any n h0 h1 _).mono (by rintro e w4 ⟨rfl, rfl⟩; exact ⟨rfl, rfl⟩))
        refine wpStill_step (fun K hK => ?_)
        go_simp
        rw [if_neg (by omega)]
        refine ⟨rfl, hK _ ?_⟩
        clear hK K
        refine wpStill_nil ?_
        all_goals
          go_wp2_with fail
          have H4 := hide (((H3.out.setRaw (⟨(x.raw).toArray⟩ ++ ⟨(Pq.numTxt n).toArray⟩)).drew).is (show _ = (⟨(adv s.data.toList x.a), x.raw ++ Pq.numTxt n, x.plain⟩ : TS) by simp))
          have G4 := (G3.setT 0 (.string (⟨(x.raw).toArray⟩ ++ ⟨(Pq.numTxt n).toArray⟩))).drew
          clear c0 c1 c2 c3 z0 z1 z2 H3 G3
          generalize (w1.setCell ⟨bt, 0, none⟩ (.string (⟨(x.raw).toArray⟩ ++ ⟨(Pq.numTxt n).toArray⟩))).drew = w5 at *
          obtain ⟨c0, c1, c2, c3⟩ := H4.out.cells
          obtain ⟨z0, z1, z2⟩ := H4.out.free
          simp only [] at c2 c3
          go_still_tail 8, (by kernel_rfl)
          still_call ((itoa_any n h0 h1 _).mono (by rintro e w4 ⟨rfl, rfl⟩; exact ⟨rfl, rfl⟩))
          refine wpStill_step (fun K hK => ?_)
          go_simp
          rw [if_neg (by omega)]
          refine ⟨rfl, hK _ ?_⟩
          clear hK K
          refine wpStill_nil ?_
          all_goals
            go_wp2
            go_end0
            refine ⟨rfl, ((H4.out.setPlain _).drew).is ?_, (G4.setT _ _).drew⟩
            rw [HNS.out]; simp
    · have H10 : Hid (¬ n.toNat < 10) := by show ¬ _; omega
      have HNS : Hid (Pk.numberS s.data.toList n.toNat false x = ⟨x.a, x.raw ++ Pq.numTxt n, x.plain ++ Pq.numTxt n⟩) := by show _ = _; simp [Pk.numberS, Pk.nought, Pk.blankB, H10.out, HNN.out]
      go_enter Tryz.func29, Tryz.ntmps29
      go_wp2_with fail
      have H2 : Hid (TF w bf bt s ⟨x.a, x.raw, x.plain⟩) := H
      have G2' := G2.refl bf bt w
      have G3 := G2'
      have H3 := H2
      clear c0 c1 c2 c3 z0 z1 z2 G2' H2
      have m1 : (x.raw).length ≤ 1000010 := by omega
      have m2 : (x.plain).length ≤ 1000010 := by omega
      obtain ⟨c0, c1, c2, c3⟩ := H3.out.cells
      obtain ⟨z0, z1, z2⟩ := H3.out.free
      simp only [] at c2 c3
      go_still_tail 8, (by kernel_rfl)
      still_call ((itoa_any n h0 h1 _).mono (by rintro e w4 ⟨rfl, rfl⟩; exact ⟨rfl, rfl⟩))
      refine wpStill_step (fun K hK => ?_)
      go_simp
      rw [if_neg (by omega)]
      refine ⟨rfl, hK _ ?_⟩
      clear hK K
      refine wpStill_nil ?_
      all_goals
        go_wp2_with fail
        have H4 := hide (((H3.out.setRaw (⟨(x.raw).toArray⟩ ++ ⟨(Pq.numTxt n).toArray⟩)).drew).is (show _ = (⟨x.a, x.raw ++ Pq.numTxt n, x.plain⟩ : TS) by simp))
        have G4 := (G3.setT 0 (.string (⟨(x.raw).toArray⟩ ++ ⟨(Pq.numTxt n).toArray⟩))).drew
        clear c0 c1 c2 c3 z0 z1 z2 H3 G3
        generalize (w.setCell ⟨bt, 0, none⟩ (.string (⟨(x.raw).toArray⟩ ++ ⟨(Pq.numTxt n).toArray⟩))).drew = w5 at *
        obtain ⟨c0, c1, c2, c3⟩ := H4.out.cells
        obtain ⟨z0, z1, z2⟩ := H4.out.free
        simp only [] at c2 c3
        go_still_tail 8, (by kernel_rfl)
        still_call ((itoa_any n h0 h1 _).mono (by rintro e w4 ⟨rfl, rfl⟩; exact ⟨rfl, rfl⟩))
        refine wpStill_step (fun K hK => ?_)
        go_simp
        rw [if_neg (by omega)]
        refine ⟨rfl, hK _ ?_⟩
        clear hK K
        refine wpStill_nil ?_
        all_goals
          go_wp2
          go_end0
          refine ⟨rfl, ((H4.out.setPlain _).drew).is ?_, (G4.setT _ _).drew⟩
          rw [HNS.out]; simp
  · by_cases h10 : n < 10
    · have H10 : Hid (n.toNat < 10) := by show _ < _; omega
      by_cases hq : nxt s.data.toList x.a 3 = 1
      · have hq' : ((nxt s.data.toList x.a 3 : Int) == 1) = true := by rw [hq]; rfl
        have HNS : Hid (Pk.numberS s.data.toList n.toNat true x = ⟨adv s.data.toList x.a, x.raw ++ [32] ++ [48] ++ Pq.numTxt n, x.plain ++ [32] ++ Pq.numTxt n⟩) := by show _ = _; simp [Pk.numberS, Pk.nought, Pk.blankB, H10.out, hq, HNN.out]
        clear hq
        go_enter Tryz.func29, Tryz.ntmps29
        go_wp2_with fail
        have H0 := hide (((H.out.setRaw (⟨x.raw.toArray⟩ ++ ⟨#[32]⟩)).setPlain (⟨x.plain.toArray⟩ ++ ⟨#[32]⟩)).is (show _ = (⟨x.a, x.raw ++ [32], x.plain ++ [32]⟩ : TS) by simp))
        have G0 := ((G2.refl bf bt w).setT 0 (.string (⟨x.raw.toArray⟩ ++ ⟨#[32]⟩))).setT 1 (.string (⟨x.plain.toArray⟩ ++ ⟨#[32]⟩))
        refine (next_any H0.out 3 (by omega) (by omega)).mono ?_
        rintro e w1 ⟨rfl, h1, g1⟩
        have H1 : Hid (TF w1 bf bt s ⟨adv s.data.toList x.a, x.raw ++ [32], x.plain ++ [32]⟩) := h1
        have G1 := G0.trans g1
        clear h1 g1 c0 c1 c2 c3 z0 z1 z2 H0 G0
        obtain ⟨c0, c1, c2, c3⟩ := H1.out.cells
        obtain ⟨z0, z1, z2⟩ := H1.out.free
        go_wp2_with fail
        have H2 := hide ((H1.out.setRaw (⟨(x.raw ++ [32]).toArray⟩ ++ ⟨#[48]⟩)).is (show _ = (⟨adv s.data.toList x.a, x.raw ++ [32, 48], x.plain ++ [32]⟩ : TS) by simp))
        have G2' := G1.setT 0 (.string (⟨(x.raw ++ [32]).toArray⟩ ++ ⟨#[48]⟩))
        have G3 := G2'
        have H3 := H2
        clear c0 c1 c2 c3 z0 z1 z2 G2' H2
        generalize w1.setCell ⟨bt, 0, none⟩ (.string (⟨(x.raw ++ [32]).toArray⟩ ++ ⟨#[48]⟩)) = w3 at *
        have m1 : (x.raw ++ [32, 48]).length ≤ 1000010 := by simp; omega
        have m2 : (x.plain ++ [32]).length ≤ 1000010 := by simp; omega
        obtain ⟨c0, c1, c2, c3⟩ := H3.out.cells
        obtain ⟨z0, z1, z2⟩ := H3.out.free
        simp only [] at c2 c3
        go_still_tail 8, (by kernel_rfl)
        still_call ((itoa_any n h0 h1 _).mono (by rintro e w4 ⟨rfl, rfl⟩; exact ⟨rfl, rfl⟩))
        refine wpStill_step (fun K hK => ?_)
        go_simp
        rw [if_neg (by omega)]
        refine ⟨rfl, hK _ ?_⟩
        clear hK K
        refine wpStill_nil ?_
        all_goals
          go_wp2_with fail
          have H4 := hide (((H3.out.setRaw (⟨(x.raw ++ [32, 48]).toArray⟩ ++ ⟨(Pq.numTxt n).toArray⟩)).drew).is (show _ = (⟨(adv s.data.toList x.a), x.raw ++ [32, 48] ++ Pq.numTxt n, x.plain ++ [32]⟩ : TS) by simp))
          have G4 := (G3.setT 0 (.string (⟨(x.raw ++ [32, 48]).toArray⟩ ++ ⟨(Pq.numTxt n).toArray⟩))).drew
          clear c0 c1 c2 c3 z0 z1 z2 H3 G3
          generalize (w3.setCell ⟨bt, 0, none⟩ (.string (⟨(x.raw ++ [32, 48]).toArray⟩ ++ ⟨(Pq.numTxt n).toArray⟩))).drew = w5 at *
          obtain ⟨c0, c1, c2, c3⟩ := H4.out.cells
          obtain ⟨z0, z1, z2⟩ := H4.out.free
          simp only [] at c2 c3
          go_still_tail 8, (by kernel_rfl)
          still_call ((itoa_any n h0 h1 _).mono (by rintro e w4 ⟨rfl, rfl⟩; exact ⟨rfl, rfl⟩))
          refine wpStill_step (fun K hK => ?_)
          go_simp
          rw [if_neg (by omega)]
          refine ⟨rfl, hK _ ?_⟩
          clear hK K
          refine wpStill_nil ?_
          all_goals
            go_wp2
            go_end0
            refine ⟨rfl, ((H4.out.setPlain _).drew).is ?_, (G4.setT _ _).drew⟩
            rw [HNS.out]; simp
      · have hq' : ((nxt s.data.toList x.a 3 : Int) == 1) = false := by rw [beq_eq_false_iff_ne]; omega
        have HNS : Hid (Pk.numberS s.data.toList n.toNat true x = ⟨adv s.data.toList x.a, x.raw ++ [32] ++ Pq.numTxt n, x.plain ++ [32] ++ Pq.numTxt n⟩) := by show _ = _; simp [Pk.numberS, Pk.nought, Pk.blankB, H10.out, hq, HNN.out]
        clear hq
        go_enter Tryz.func29, Tryz.ntmps29
        go_wp2_with fail
        have H0 := hide (((H.out.setRaw (⟨x.raw.toArray⟩ ++ ⟨#[32]⟩)).setPlain (⟨x.plain.toArray⟩ ++ ⟨#[32]⟩)).is (show _ = (⟨x.a, x.raw ++ [32], x.plain ++ [32]⟩ : TS) by simp))
        have G0 := ((G2.refl bf bt w).setT 0 (.string (⟨x.raw.toArray⟩ ++ ⟨#[32]⟩))).setT 1 (.string (⟨x.plain.toArray⟩ ++ ⟨#[32]⟩))
        refine (next_any H0.out 3 (by omega) (by omega)).mono ?_
        rintro e w1 ⟨rfl, h1, g1⟩
        have H1 : Hid (TF w1 bf bt s ⟨adv s.data.toList x.a, x.raw ++ [32], x.plain ++ [32]⟩) := h1
        have G1 := G0.trans g1
        clear h1 g1 c0 c1 c2 c3 z0 z1 z2 H0 G0
        obtain ⟨c0, c1, c2, c3⟩ := H1.out.cells
        obtain ⟨z0, z1, z2⟩ := H1.out.free
        go_wp2_with fail
        have H2 := H1
        have G2' := G1
        have G3 := G2'
        have H3 := H2
        clear c0 c1 c2 c3 z0 z1 z2 G2' H2
        have m1 : (x.raw ++ [32]).length ≤ 1000010 := by simp; omega
        have m2 : (x.plain ++ [32]).length ≤ 1000010 := by simp; omega
        obtain ⟨c0, c1, c2, c3⟩ := H3.out.cells
        obtain ⟨z0, z1, z2⟩ := H3.out.free
        simp only [] at c2 c3
        go_still_tail 8, (by kernel_rfl)
        still_call ((itoa_any n h0 h1 _).mono (by rintro e w4 ⟨rfl, rfl⟩; exact ⟨rfl, rfl⟩))
        refine wpStill_step (fun K hK => ?_)
        go_simp
        rw [if_neg (by omega)]
        refine ⟨rfl, hK _ ?_⟩
        clear hK K
        refine wpStill_nil ?_
        all_goals
          go_wp2_with fail
          have H4 := hide (((H3.out.setRaw (⟨(x.raw ++ [32]).toArray⟩ ++ ⟨(Pq.numTxt n).toArray⟩)).drew).is (show _ = (⟨(adv s.data.toList x.a), x.raw ++ [32] ++ Pq.numTxt n, x.plain ++ [32]⟩ : TS) by simp))
          have G4 := (G3.setT 0 (.string (⟨(x.raw ++ [32]).toArray⟩ ++ ⟨(Pq.numTxt n).toArray⟩))).drew
          clear c0 c1 c2 c3 z0 z1 z2 H3 G3
          generalize (w1.setCell ⟨bt, 0, none⟩ (.string (⟨(x.raw ++ [32]).toArray⟩ ++ ⟨(Pq.numTxt n).toArray⟩))).drew = w5 at *
          obtain ⟨c0, c1, c2, c3⟩ := H4.out.cells
          obtain ⟨z0, z1, z2⟩ := H4.out.free
          simp only [] at c2 c3
          go_still_tail 8, (by kernel_rfl)
          still_call ((itoa_any n h0 h1 _).mono (by rintro e w4 ⟨rfl, rfl⟩; exact ⟨rfl, rfl⟩))
          refine wpStill_step (fun K hK => ?_)
          go_simp
          rw [if_neg (by omega)]
          refine ⟨rfl, hK _ ?_⟩
          clear hK K
          refine wpStill_nil ?_
          all_goals
            go_wp2
            go_end0
            refine ⟨rfl, ((H4.out.setPlain _).drew).is ?_, (G4.setT _ _).drew⟩
            rw [HNS.out]; simp
    · have H10 : Hid (¬ n.toNat < 10) := by show ¬ _; omega
      have HNS : Hid (Pk.numberS s.data.toList n.toNat true x = ⟨x.a, x.raw ++ [32] ++ Pq.numTxt n, x.plain ++ [32] ++ Pq.numTxt n⟩) := by show _ = _; simp [Pk.numberS, Pk.nought, Pk.blankB, H10.out, HNN.out]
      go_enter Tryz.func29, Tryz.ntmps29
      go_wp2_with fail
      have H2 := hide (((H.out.setRaw (⟨x.raw.toArray⟩ ++ ⟨#[32]⟩)).setPlain (⟨x.plain.toArray⟩ ++ ⟨#[32]⟩)).is (show _ = (⟨x.a, x.raw ++ [32], x.plain ++ [32]⟩ : TS) by simp))
      have G2' := ((G2.refl bf bt w).setT 0 (.string (⟨x.raw.toArray⟩ ++ ⟨#[32]⟩))).setT 1 (.string (⟨x.plain.toArray⟩ ++ ⟨#[32]⟩))
      have G3 := G2'
      have H3 := H2
      clear c0 c1 c2 c3 z0 z1 z2 G2' H2
      generalize (w.setCell ⟨bt, 0, none⟩ (.string (⟨x.raw.toArray⟩ ++ ⟨#[32]⟩))).setCell ⟨bt, 1, none⟩ (.string (⟨x.plain.toArray⟩ ++ ⟨#[32]⟩)) = w3 at *
      have m1 : (x.raw ++ [32]).length ≤ 1000010 := by simp; omega
      have m2 : (x.plain ++ [32]).length ≤ 1000010 := by simp; omega
      obtain ⟨c0, c1, c2, c3⟩ := H3.out.cells
      obtain ⟨z0, z1, z2⟩ := H3.out.free
      simp only [] at c2 c3
      go_still_tail 8, (by kernel_rfl)
      still_call ((itoa_any n h0 h1 _).mono (by rintro e w4 ⟨rfl, rfl⟩; exact ⟨rfl, rfl⟩))
      refine wpStill_step (fun K hK => ?_)
      go_simp
      rw [if_neg (by omega)]
      refine ⟨rfl, hK _ ?_⟩
      clear hK K
      refine wpStill_nil ?_
      all_goals
        go_wp2_with fail
        have H4 := hide (((H3.out.setRaw (⟨(x.raw ++ [32]).toArray⟩ ++ ⟨(Pq.numTxt n).toArray⟩)).drew).is (show _ = (⟨x.a, x.raw ++ [32] ++ Pq.numTxt n, x.plain ++ [32]⟩ : TS) by simp))
        have G4 := (G3.setT 0 (.string (⟨(x.raw ++ [32]).toArray⟩ ++ ⟨(Pq.numTxt n).toArray⟩))).drew
        clear c0 c1 c2 c3 z0 z1 z2 H3 G3
        generalize (w3.setCell ⟨bt, 0, none⟩ (.string (⟨(x.raw ++ [32]).toArray⟩ ++ ⟨(Pq.numTxt n).toArray⟩))).drew = w5 at *
        obtain ⟨c0, c1, c2, c3⟩ := H4.out.cells
        obtain ⟨z0, z1, z2⟩ := H4.out.free
        simp only [] at c2 c3
        go_still_tail 8, (by kernel_rfl)
        still_call ((itoa_any n h0 h1 _).mono (by rintro e w4 ⟨rfl, rfl⟩; exact ⟨rfl, rfl⟩))
        refine wpStill_step (fun K hK => ?_)
        go_simp
        rw [if_neg (by omega)]
        refine ⟨rfl, hK _ ?_⟩
        clear hK K
        refine wpStill_nil ?_
        all_goals
          go_wp2
          go_end0
          refine ⟨rfl, ((H4.out.setPlain _).drew).is ?_, (G4.setT _ _).drew⟩
          rw [HNS.out]; simp
end Go.Proofs.YtcoofnhdbejnpabGreatDoor

