/- Two views and the counts beside each other. -/
import Derived.Test.YtcoofnhdbejnpaaGreatDoorG11
import Derived.Test.YtcoofnhdbejnpaaGreatDoorG38
import Derived.StillTailTactics
import Derived.Test.YtcoofnhdbejnpaaGreatDoorG16
namespace Go.Proofs.YtcoofnhdbejnpaaGreatDoor
open Go.RowKit
theorem Pk.astPS_full {q : Pk.Ast} {n : Nat} {full : Bool} (h : full = true ∨ full = Pk.fullOf q) : Pk.astPS q n full = Pk.astPS q n true := by
  rcases h with rfl | rfl
  · rfl
  · unfold Pk.astPS Pk.fullOf
    cases hq : q.top with
    | none => rfl
    | some x =>
      obtain ⟨a, b⟩ := x
      by_cases hb : b = 0
      · simp [hb]
      · simp [hb]
theorem XV.butX {w w' : World} {gx gy : Nat} {vb vk vf vt ub uk uf ut : Value} {has has2 : Bool} {tp fr tp2 fr2 : Int} {Q Q2 : Pv.Qry} {t t2 : List Pv.Chg} (h : XV w gy ub uk uf has2 tp2 fr2 ut Q2 t2) (hx : XV w gx vb vk vf has tp fr vt Q t) (hb : But (fun k => k = gx) w w') (hne : gy ≠ gx) : XV w' gy ub uk uf has2 tp2 fr2 ut Q2 t2 :=
  ⟨(hb.block gy (Array.getElem?_eq_some_iff.1 h.blk).1 hne).trans h.blk, h.q.but hb hx.offX (by decide) (by decide) (by decide), h.rt.but hb hx.offX (by decide), h.inv⟩
/-- another view, whatever it has -/
def XVx (w : World) (gy : Nat) (Q : Pv.Qry) (t : List Pv.Chg) : Prop := ∃ vb vk vf has tp fr vt, XV w gy vb vk vf has tp fr vt Q t
theorem XVx.below {w w' : World} {gy : Nat} {Q : Pv.Qry} {t : List Pv.Chg} (h : XVx w gy Q t) (hb : Below w.heap.size w w') : XVx w' gy Q t := by
  obtain ⟨vb, vk, vf, has, tp, fr, vt, h⟩ := h
  exact ⟨vb, vk, vf, has, tp, fr, vt, h.below hb⟩
/-- a view, the counts that say the same, another view -/
def UM2 (N : Nat) (w wr : World) (bc gx gy : Nat) (Q : Pv.Qry) (cs : List Pv.Chg) (all : Int) (t : List Pv.Chg) (Q2 : Pv.Qry) (t2 : List Pv.Chg) : Prop := UM N w wr bc gx Q cs all t ∧ gy ≠ gx ∧ XVx wr gy Q2 t2
def UB2 (N : Nat) (w wr : World) (bc gx gy : Nat) (Q : Pv.Qry) (cs : List Pv.Chg) (all : Int) (t : List Pv.Chg) (l : Pq.Bytes) (Q2 : Pv.Qry) (t2 : List Pv.Chg) : Prop := UB N w wr bc gx Q cs all t l ∧ gy ≠ gx ∧ XVx wr gy Q2 t2
def UB2Post (N : Nat) (w wr : World) (bc gx gy : Nat) (Q : Pv.Qry) (cs : List Pv.Chg) (all : Int) (t : List Pv.Chg) (l : Pq.Bytes) (Q2 : Pv.Qry) (t2 : List Pv.Chg) (e : Ending) (w' : World) : Prop :=
  ∃ x n c, e = .returned (.slice x n c) ∧ UB2 N w w' bc gx gy Q cs all t l Q2 t2 ∧ RdC w' (.slice x n c) (Pk.batchF l cs all).l ∧ Kp wr w'
theorem UM2.batch {N : Nat} {w wr : World} {bc gx gy : Nat} {Q Q2 : Pv.Qry} {cs : List Pv.Chg} {all : Int} {t t2 : List Pv.Chg} (h : UM2 N w wr bc gx gy Q cs all t Q2 t2) {s : ByteArray} (hs : s.size ≤ maxLen) :
    Calls Tryz.prog 24 #[.pointer (some ⟨bc, 0, none⟩), .string s] wr fun e w' => UB2Post N w wr bc gx gy Q cs all t s.data.toList Q2 t2 e w' := by
  obtain ⟨⟨hb, hN1, hN2, hN3, hI, hS, vr, vn, vb, vk, vf, has, tp, fr, vt, hc, hx⟩, hne, ub, uk, uf, has2, tp2, fr2, ut, hy⟩ := h
  refine (batch_any hc hI (Nat.le_trans hN3 hb.size) hs).mono ?_
  rintro e w' ⟨bu, x, n, c, vr', vn', rfl, own, cm, o1, o2⟩
  exact ⟨x, n, c, rfl, ⟨⟨But.near hb hN3 bu (hc.ge hN1), hN1, hN2, hN3, hI, hS, vr', vn', vb, vk, vf, has, tp, fr, vt, cm, hx.butC hc bu⟩, hne, ub, uk, uf, has2, tp2, fr2, ut, hy.butC hc bu⟩, RdC.ofOwn own, Kp.but bu hc.off (by unfold pC; decide) (by unfold pC; decide) (by unfold pC; decide)⟩
def UA2Post (N : Nat) (w wr : World) (bc gx gy : Nat) (Q : Pv.Qry) (cs : List Pv.Chg) (all : Int) (t bt : List Pv.Chg) (Q2 : Pv.Qry) (t2 : List Pv.Chg) (e : Ending) (w' : World) : Prop :=
  ∃ x n c, e = .returned (.tuple #[.slice x n c, .int .i64 0, .int .i64 0]) ∧ UM2 N w w' bc gx gy Q cs all (Pv.tableF t bt) Q2 t2 ∧ RdO w' (.slice x n c) (Pv.appliedF Q t bt) ∧ Kp wr w'
theorem UB2.apply {N : Nat} {w wr : World} {bc gx gy : Nat} {Q Q2 : Pv.Qry} {cs : List Pv.Chg} {all : Int} {t t2 : List Pv.Chg} {l : Pq.Bytes} (h : UB2 N w wr bc gx gy Q cs all t l Q2 t2) {v : Value} (hv : RdC wr v (Pk.batchF l cs all).l) :
    Calls Tryz.prog 18 #[.pointer (some ⟨gx, 0, none⟩), v] wr fun e w' => UA2Post N w wr bc gx gy Q (Pk.batchF l cs all).cs (Pk.batchF l cs all).all t (Pk.batchF l cs all).l Q2 t2 e w' := by
  obtain ⟨⟨hb, hN1, hN2, hN3, hI, hS, vr, vn, vb, vk, vf, has, tp, fr, vt, hc, hx⟩, hne, ub, uk, uf, has2, tp2, fr2, ut, hy⟩ := h
  obtain ⟨h0, hs2, hI2, hl⟩ := Pk.batch_ok l hI hS
  have h1 : (Pv.refusedF t (Pk.batchF l cs all).l).1 = 0 := by rw [h0]
  refine (xapply_any hx hv (by omega)).mono ?_
  rintro e w' ⟨bu, x, n, c, x2, n2, c2, P, rfl, oq, hm, hblk, hor⟩
  have hng : ¬ CS bc vr vn gx := hc.off.ne hx.blk (by unfold pC; decide)
  rcases hor with ⟨hq, _⟩ | ⟨_, own⟩
  · exact absurd h1 hq
  · refine ⟨x, n, c, by rw [h0]; rfl, ⟨⟨But.near hb hN3 bu (fun k hk e => by omega), hN1, hN2, hN3, hI2, hs2, vr, vn, vb, vk, vf, has, tp, fr, .slice x2 n2 c2, hc.but bu (fun k hk e => hng (e ▸ hk)), ⟨hblk, hx.q.but bu hx.offX (by decide) (by decide) (by decide), RdC.ofOwn own, (hx.inv.next h1).1⟩⟩, hne, ub, uk, uf, has2, tp2, fr2, ut, hy.butX hx bu hne⟩, ?_, Kp.but bu hx.offX (by decide) (by decide) (by decide)⟩
    rw [← hm]
    exact oq.toP.toO.rd
theorem UM2.below {N : Nat} {w wr w1 : World} {bc gx gy : Nat} {Q Q2 : Pv.Qry} {cs : List Pv.Chg} {all : Int} {t t2 : List Pv.Chg} (h : UM2 N w wr bc gx gy Q cs all t Q2 t2) (hb : Below wr.heap.size wr w1) : UM2 N w w1 bc gx gy Q cs all t Q2 t2 := ⟨h.1.below hb, h.2.1, h.2.2.below hb⟩
/-- the other view is given a batch -/
def XB2Post (N : Nat) (w wr : World) (bc gx gy : Nat) (Q : Pv.Qry) (cs : List Pv.Chg) (all : Int) (t : List Pv.Chg) (Q2 : Pv.Qry) (t2 bt : List Pv.Chg) (e : Ending) (w' : World) : Prop :=
  ∃ x n c, e = .returned (.tuple #[.slice x n c, .int .i64 0, .int .i64 0]) ∧ UM2 N w w' bc gx gy Q cs all t Q2 (Pv.tableF t2 bt) ∧ RdO w' (.slice x n c) (Pv.appliedF Q2 t2 bt) ∧ Kp wr w'
theorem UM2.other {N : Nat} {w wr : World} {bc gx gy : Nat} {Q Q2 : Pv.Qry} {cs : List Pv.Chg} {all : Int} {t t2 bt : List Pv.Chg} (h : UM2 N w wr bc gx gy Q cs all t Q2 t2) (hgy : N ≤ gy) {v : Value} (hv : RdC wr v bt) (h0 : Pv.refusedF t2 bt = (0, 0)) (hl : bt.length ≤ 50) :
    Calls Tryz.prog 18 #[.pointer (some ⟨gy, 0, none⟩), v] wr fun e w' => XB2Post N w wr bc gx gy Q cs all t Q2 t2 bt e w' := by
  obtain ⟨⟨hb, hN1, hN2, hN3, hI, hS, vr, vn, vb, vk, vf, has, tp, fr, vt, hc, hx⟩, hne, ub, uk, uf, has2, tp2, fr2, ut, hy⟩ := h
  have h1 : (Pv.refusedF t2 bt).1 = 0 := by rw [h0]
  refine (xapply_any hy hv (by omega)).mono ?_
  rintro e w' ⟨bu, x, n, c, x2, n2, c2, P, rfl, oq, hm, hblk, hor⟩
  have hng : ¬ CS bc vr vn gy := hc.off.ne hy.blk (by unfold pC; decide)
  rcases hor with ⟨hq, _⟩ | ⟨_, own⟩
  · exact absurd h1 hq
  · refine ⟨x, n, c, by rw [h0]; rfl, ⟨⟨But.near hb hN3 bu (fun k hk e => by omega), hN1, hN2, hN3, hI, hS, vr, vn, vb, vk, vf, has, tp, fr, vt, hc.but bu (fun k hk e => hng (e ▸ hk)), hx.butX hy bu (Ne.symm hne)⟩, hne, ub, uk, uf, has2, tp2, fr2, .slice x2 n2 c2, ⟨hblk, hy.q.but bu hy.offX (by decide) (by decide) (by decide), RdC.ofOwn own, (hy.inv.next h1).1⟩⟩, ?_, Kp.but bu hy.offX (by decide) (by decide) (by decide)⟩
    rw [← hm]
    exact oq.toP.toO.rd
end Go.Proofs.YtcoofnhdbejnpaaGreatDoor

/- Package paneskeep: numbers. -/
namespace Go.Proofs.YtcoofnhdbejnpaaGreatDoor
open Go.RowKit
open Pk (TS nxt adv)
set_option maxRecDepth 100000 in
set_option maxHeartbeats 4000000 in
theorem knumber_any {w : World} {bf bt : Nat} {s : ByteArray} {x : TS} (h : TF w bf bt s x) (n : Int) (b : Bool) (hx : LenOk x) (h0 : 0 ≤ n) (h1 : n < 100) :
    Calls Tryz.prog 56 #[.pointer (some ⟨bt, 0, none⟩), .pointer (some ⟨bf, 0, none⟩), .int .i64 n, .bool b] w fun e w' => e = .returned (.tuple #[]) ∧ TF w' bf bt s (Pk.numberS s.data.toList n.toNat b x) ∧ G2 bf bt w w' := by
  have H := hide h
  obtain ⟨c0, c1, c2, c3⟩ := h.cells
  obtain ⟨z0, z1, z2⟩ := h.free
  obtain ⟨l1, l2⟩ := hx
  have hne := h.ne
  have hne' := h.ne.symm
  have hl := Pq.numTxt_len n
  clear h
  have hnn : ((n.toNat : Nat) : Int) = n := by omega
  have HNN := hide hnn
  clear hnn
  cases b
  · by_cases h10 : n < 10
    · have H10 : Hid (n.toNat < 10) := by show _ < _; omega
      by_cases hq : nxt s.data.toList x.a 3 = 1
      · have hq' : ((nxt s.data.toList x.a 3 : Int) == 1) = true := by rw [hq]; rfl
        have HNS : Hid (Pk.numberS s.data.toList n.toNat false x = ⟨adv s.data.toList x.a, x.raw ++ [48] ++ Pq.numTxt n, x.plain ++ Pq.numTxt n⟩) := by show _ = _; simp [Pk.numberS, Pk.nought, Pk.blankB, H10.out, hq, HNN.out]
        clear hq
        go_enter Tryz.func56, Tryz.ntmps56
        go_wp2_with fail
        have H0 := H
        have G0 := G2.refl bf bt w
        refine (next_any H0.out 3 (by omega) (by omega)).mono ?_
        rintro e w1 ⟨rfl, h1, g1⟩
        have H1 : Hid (TF w1 bf bt s ⟨adv s.data.toList x.a, x.raw, x.plain⟩) := h1
        have G1 := G0.trans g1
        clear h1 g1 c0 c1 c2 c3 z0 z1 z2 H0 G0
        obtain ⟨c0, c1, c2, c3⟩ := H1.out.cells
        obtain ⟨z0, z1, z2⟩ := H1.out.free
        go_wp2_with fail
        have H2 := hide ((H1.out.setRaw (⟨(x.raw).toArray⟩ ++ ⟨#[48]⟩)).is (show _ = (⟨adv s.data.toList x.a, x.raw ++ [48], x.plain⟩ : TS) by simp))
        have G2' := G1.setT 0 (.string (⟨(x.raw).toArray⟩ ++ ⟨#[48]⟩))
        have G3 := G2'
        have H3 := H2
        clear c0 c1 c2 c3 z0 z1 z2 G2' H2
        generalize w1.setCell ⟨bt, 0, none⟩ (.string (⟨(x.raw).toArray⟩ ++ ⟨#[48]⟩)) = w3 at *
        have m1 : (x.raw ++ [48]).length ≤ 1000010 := by simp; omega
        have m2 : (x.plain).length ≤ 1000010 := by omega
        obtain ⟨c0, c1, c2, c3⟩ := H3.out.cells
        obtain ⟨z0, z1, z2⟩ := H3.out.free
        simp only [] at c2 c3
        go_still_tail 8, (by kernel_rfl)
        still_call ((itoa_any n h0 h1 _).mono (by rintro e w4 ⟨rfl, rfl⟩; exact ⟨rfl, rfl⟩))
        refine wpStill_step (fun K hK => ?_)
        go_simp
        rw [if_neg (by omega)]
        refine ⟨rfl, hK _ ?_⟩
        clear hK K
        refine wpStill_nil ?_
        all_goals
          go_wp2_with fail
          have H4 := hide (((H3.out.setRaw (⟨(x.raw ++ [48]).toArray⟩ ++ ⟨(Pq.numTxt n).toArray⟩)).drew).is (show _ = (⟨(adv s.data.toList x.a), x.raw ++ [48] ++ Pq.numTxt n, x.plain⟩ : TS) by simp))
          have G4 := (G3.setT 0 (.string (⟨(x.raw ++ [48]).toArray⟩ ++ ⟨(Pq.numTxt n).toArray⟩))).drew
          clear c0 c1 c2 c3 z0 z1 z2 H3 G3
          generalize (w3.setCell ⟨bt, 0, none⟩ (.string (⟨(x.raw ++ [48]).toArray⟩ ++ ⟨(Pq.numTxt n).toArray⟩))).drew = w5 at *
          obtain ⟨c0, c1, c2, c3⟩ := H4.out.cells
          obtain ⟨z0, z1, z2⟩ := H4.out.free
          simp only [] at c2 c3
          go_still_tail 8, (by kernel_rfl)
          still_call ((itoa_any n h0 h1 _).mono (by rintro e w4 ⟨rfl, rfl⟩; exact ⟨rfl, rfl⟩))
          refine wpStill_step (fun K hK => ?_)
          go_simp
          rw [if_neg (by omega)]
          refine ⟨rfl, hK _ ?_⟩
          clear hK K
          refine wpStill_nil ?_
          all_goals
            go_wp2
            go_end0
            refine ⟨rfl, ((H4.out.setPlain _).drew).is ?_, (G4.setT _ _).drew⟩
            rw [HNS.out]; simp
      · have hq' : ((nxt s.data.toList x.a 3 : Int) == 1) = false := by rw [beq_eq_false_iff_ne]; omega
        have HNS : Hid (Pk.numberS s.data.toList n.toNat false x = ⟨adv s.data.toList x.a, x.raw ++ Pq.numTxt n, x.plain ++ Pq.numTxt n⟩) := by show _ = _; simp [Pk.numberS, Pk.nought, Pk.blankB, H10.out, hq, HNN.out]
        clear hq
        go_enter Tryz.func56, Tryz.ntmps56
        go_wp2_with fail
        have H0 := H
        have G0 := G2.refl bf bt w
        refine (next_any H0.out 3 (by omega) (by omega)).mono ?_
        rintro e w1 ⟨rfl, h1, g1⟩
        have H1 : Hid (TF w1 bf bt s ⟨adv s.data.toList x.a, x.raw, x.plain⟩) := h1
        have G1 := G0.trans g1
        clear h1 g1 c0 c1 c2 c3 z0 z1 z2 H0 G0
        obtain ⟨c0, c1, c2, c3⟩ := H1.out.cells
        obtain ⟨z0, z1, z2⟩ := H1.out.free
        go_wp2_with fail
        have H2 := H1
        have G2' := G1
        have G3 := G2'
        have H3 := H2
        clear c0 c1 c2 c3 z0 z1 z2 G2' H2
        have m1 : (x.raw).length ≤ 1000010 := by omega
        have m2 : (x.plain).length ≤ 1000010 := by omega
        obtain ⟨c0, c1, c2, c3⟩ := H3.out.cells
        obtain ⟨z0, z1, z2⟩ := H3.out.free
        simp only [] at c2 c3
        go_still_tail 8, (by kernel_rfl)
        still_call ((itoa_any n h0 h1 _).mono (by rintro e w4 ⟨rfl, rfl⟩; exact ⟨rfl, rfl⟩))
        refine wpStill_step (fun K hK => ?_)
        go_simp
        rw [if_neg (by omega)]
        refine ⟨rfl, hK _ ?_⟩
        clear hK K
        refine wpStill_nil ?_
        all_goals
          go_wp2_with fail
          have H4 := hide (((H3.out.setRaw (⟨(x.raw).toArray⟩ ++ ⟨(Pq.numTxt n).toArray⟩)).drew).is (show _ = (⟨(adv s.data.toList x.a), x.raw ++ Pq.numTxt n, x.plain⟩ : TS) by simp))
          have G4 := (G3.setT 0 (.string (⟨(x.raw).toArray⟩ ++ ⟨(Pq.numTxt n).toArray⟩))).drew
          clear c0 c1 c2 c3 z0 z1 z2 H3 G3
          generalize (w1.setCell ⟨bt, 0, none⟩ (.string (⟨(x.raw).toArray⟩ ++ ⟨(Pq.numTxt n).toArray⟩))).drew = w5 at *
          obtain ⟨c0, c1, c2, c3⟩ := H4.out.cells
          obtain ⟨z0, z1, z2⟩ := H4.out.free
          simp only [] at c2 c3
          go_still_tail 8, (by kernel_rfl)
          still_call ((itoa_any n h0 h1 _).mono (by rintro e w4 ⟨rfl, rfl⟩; exact ⟨rfl, rfl⟩))
          refine wpStill_step (fun K hK => ?_)
          go_simp
          rw [if_neg (by omega)]
          refine ⟨rfl, hK _ ?_⟩
          clear hK K
          refine wpStill_nil ?_
          all_goals
            go_wp2
            go_end0
            refine ⟨rfl, ((H4.out.setPlain _).drew).is ?_, (G4.setT _ _).drew⟩
            rw [HNS.out]; simp
    · have H10 : Hid (¬ n.toNat < 10) := by show ¬ _; omega
      have HNS : Hid (Pk.numberS s.data.toList n.toNat false x = ⟨x.a, x.raw ++ Pq.numTxt n, x.plain ++ Pq.numTxt n⟩) := by show _ = _; simp [Pk.numberS, Pk.nought, Pk.blankB, H10.out, HNN.out]
      go_enter Tryz.func56, Tryz.ntmps56
      go_wp2_with fail
      have H2 : Hid (TF w bf bt s ⟨x.a, x.raw, x.plain⟩) := H
      have G2' := G2.refl bf bt w
      have G3 := G2'
      have H3 := H2
      clear c0 c1 c2 c3 z0 z1 z2 G2' H2
      have m1 : (x.raw).length ≤ 1000010 := by omega
      have m2 : (x.plain).length ≤ 1000010 := by omega
      obtain ⟨c0, c1, c2, c3⟩ := H3.out.cells
      obtain ⟨z0, z1, z2⟩ := H3.out.free
      simp only [] at c2 c3
      go_still_tail 8, (by kernel_rfl)
      still_call ((itoa_any n h0 h1 _).mono (by rintro e w4 ⟨rfl, rfl⟩; exact ⟨rfl, rfl⟩))
      refine wpStill_step (fun K hK => ?_)
      go_simp
      rw [if_neg (by omega)]
      refine ⟨rfl, hK _ ?_⟩
      clear hK K
      refine wpStill_nil ?_
      all_goals
        go_wp2_with fail
        have H4 := hide (((H3.out.setRaw (⟨(x.raw).toArray⟩ ++ ⟨(Pq.numTxt n).toArray⟩)).drew).is (show _ = (⟨x.a, x.raw ++ Pq.numTxt n, x.plain⟩ : TS) by simp))
        have G4 := (G3.setT 0 (.string (⟨(x.raw).toArray⟩ ++ ⟨(Pq.numTxt n).toArray⟩))).drew
        clear c0 c1 c2 c3 z0 z1 z2 H3 G3
        generalize (w.setCell ⟨bt, 0, none⟩ (.string (⟨(x.raw).toArray⟩ ++ ⟨(Pq.numTxt n).toArray⟩))).drew = w5 at *
        obtain ⟨c0, c1, c2, c3⟩ := H4.out.cells
        obtain ⟨z0, z1, z2⟩ := H4.out.free
        simp only [] at c2 c3
        go_still_tail 8, (by kernel_rfl)
        still_call ((itoa_any n h0 h1 _).mono (by rintro e w4 ⟨rfl, rfl⟩; exact ⟨rfl, rfl⟩))
        refine wpStill_step (fun K hK => ?_)
        go_simp
        rw [if_neg (by omega)]
        refine ⟨rfl, hK _ ?_⟩
        clear hK K
        refine wpStill_nil ?_
        all_goals
          go_wp2
          go_end0
          refine ⟨rfl, ((H4.out.setPlain _).drew).is ?_, (G4.setT _ _).drew⟩
          rw [HNS.out]; simp
  · by_cases h10 : n < 10
    · have H10 : Hid (n.toNat < 10) := by show _ < _; omega
      by_cases hq : nxt s.data.toList x.a 3 = 1
      · have hq' : ((nxt s.data.toList x.a 3 : Int) == 1) = true := by rw [hq]; rfl
        have HNS : Hid (Pk.numberS s.data.toList n.toNat true x = ⟨adv s.data.toList x.a, x.raw ++ [32] ++ [48] ++ Pq.numTxt n, x.plain ++ [32] ++ Pq.numTxt n⟩) := by show _ = _; simp [Pk.numberS, Pk.nought, Pk.blankB, H10.out, hq, HNN.out]
        clear hq
        go_enter Tryz.func56, Tryz.ntmps56
        go_wp2_with fail
        have H0 := hide (((H.out.setRaw (⟨x.raw.toArray⟩ ++ ⟨#[32]⟩)).setPlain (⟨x.plain.toArray⟩ ++ ⟨#[32]⟩)).is (show _ = (⟨x.a, x.raw ++ [32], x.plain ++ [32]⟩ : TS) by simp))
        have G0 := ((G2.refl bf bt w).setT 0 (.string (⟨x.raw.toArray⟩ ++ ⟨#[32]⟩))).setT 1 (.string (⟨x.plain.toArray⟩ ++ ⟨#[32]⟩))
        refine (next_any H0.out 3 (by omega) (by omega)).mono ?_
        rintro e w1 ⟨rfl, h1, g1⟩
        have H1 : Hid (TF w1 bf bt s ⟨adv s.data.toList x.a, x.raw ++ [32], x.plain ++ [32]⟩) := h1
        have G1 := G0.trans g1
        clear h1 g1 c0 c1 c2 c3 z0 z1 z2 H0 G0
        obtain ⟨c0, c1, c2, c3⟩ := H1.out.cells
        obtain ⟨z0, z1, z2⟩ := H1.out.free
        go_wp2_with fail
        have H2 := hide ((H1.out.setRaw (⟨(x.raw ++ [32]).toArray⟩ ++ ⟨#[48]⟩)).is (show _ = (⟨adv s.data.toList x.a, x.raw ++ [32, 48], x.plain ++ [32]⟩ : TS) by simp))
        have G2' := G1.setT 0 (.string (⟨(x.raw ++ [32]).toArray⟩ ++ ⟨#[48]⟩))
        have G3 := G2'
        have H3 := H2
        clear c0 c1 c2 c3 z0 z1 z2 G2' H2
        generalize w1.setCell ⟨bt, 0, none⟩ (.string (⟨(x.raw ++ [32]).toArray⟩ ++ ⟨#[48]⟩)) = w3 at *
        have m1 : (x.raw ++ [32, 48]).length ≤ 1000010 := by simp; omega
        have m2 : (x.plain ++ [32]).length ≤ 1000010 := by simp; omega
        obtain ⟨c0, c1, c2, c3⟩ := H3.out.cells
        obtain ⟨z0, z1, z2⟩ := H3.out.free
        simp only [] at c2 c3
        go_still_tail 8, (by kernel_rfl)
        still_call ((itoa_any n h0 h1 _).mono (by rintro e w4 ⟨rfl, rfl⟩; exact ⟨rfl, rfl⟩))
        refine wpStill_step (fun K hK => ?_)
        go_simp
        rw [if_neg (by omega)]
        refine ⟨rfl, hK _ ?_⟩
        clear hK K
        refine wpStill_nil ?_
        all_goals
          go_wp2_with fail
          have H4 := hide (((H3.out.setRaw (⟨(x.raw ++ [32, 48]).toArray⟩ ++ ⟨(Pq.numTxt n).toArray⟩)).drew).is (show _ = (⟨(adv s.data.toList x.a), x.raw ++ [32, 48] ++ Pq.numTxt n, x.plain ++ [32]⟩ : TS) by simp))
          have G4 := (G3.setT 0 (.string (⟨(x.raw ++ [32, 48]).toArray⟩ ++ ⟨(Pq.numTxt n).toArray⟩))).drew
          clear c0 c1 c2 c3 z0 z1 z2 H3 G3
          generalize (w3.setCell ⟨bt, 0, none⟩ (.string (⟨(x.raw ++ [32, 48]).toArray⟩ ++ ⟨(Pq.numTxt n).toArray⟩))).drew = w5 at *
          obtain ⟨c0, c1, c2, c3⟩ := H4.out.cells
          obtain ⟨z0, z1, z2⟩ := H4.out.free
          simp only [] at c2 c3
          go_still_tail 8, (by kernel_rfl)
          still_call ((itoa_any n h0 h1 _).mono (by rintro e w4 ⟨rfl, rfl⟩; exact ⟨rfl, rfl⟩))
          refine wpStill_step (fun K hK => ?_)
          go_simp
          rw [if_neg (by omega)]
          refine ⟨rfl, hK _ ?_⟩
          clear hK K
          refine wpStill_nil ?_
          all_goals
            go_wp2
            go_end0
            refine ⟨rfl, ((H4.out.setPlain _).drew).is ?_, (G4.setT _ _).drew⟩
            rw [HNS.out]; simp
      · have hq' : ((nxt s.data.toList x.a 3 : Int) == 1) = false := by rw [beq_eq_false_iff_ne]; omega
        have HNS : Hid (Pk.numberS s.data.toList n.toNat true x = ⟨adv s.data.toList x.a, x.raw ++ [32] ++ Pq.numTxt n, x.plain ++ [32] ++ Pq.numTxt n⟩) := by show _ = _; simp [Pk.numberS, Pk.nought, Pk.blankB, H10.out, hq, HNN.out]
        clear hq
        go_enter Tryz.func56, Tryz.ntmps56
        go_wp2_with fail
        have H0 := hide (((H.out.setRaw (⟨x.raw.toArray⟩ ++ ⟨#[32]⟩)).setPlain (⟨x.plain.toArray⟩ ++ ⟨#[32]⟩)).is (show _ = (⟨x.a, x.raw ++ [32], x.plain ++ [32]⟩ : TS) by simp))
        have G0 := ((G2.refl bf bt w).setT 0 (.string (⟨x.raw.toArray⟩ ++ ⟨#[32]⟩))).setT 1 (.string (⟨x.plain.toArray⟩ ++ ⟨#[32]⟩))
        refine (next_any H0.out 3 (by omega) (by omega)).mono ?_
        rintro e w1 ⟨rfl, h1, g1⟩
        have H1 : Hid (TF w1 bf bt s ⟨adv s.data.toList x.a, x.raw ++ [32], x.plain ++ [32]⟩) := h1
        have G1 := G0.trans g1
        clear h1 g1 c0 c1 c2 c3 z0 z1 z2 H0 G0
        obtain ⟨c0, c1, c2, c3⟩ := H1.out.cells
        obtain ⟨z0, z1, z2⟩ := H1.out.free
        go_wp2_with fail
        have H2 := H1
        have G2' := G1
        have G3 := G2'
        have H3 := H2
        clear c0 c1 c2 c3 z0 z1 z2 G2' H2
        have m1 : (x.raw ++ [32]).length ≤ 1000010 := by simp; omega
        have m2 : (x.plain ++ [32]).length ≤ 1000010 := by simp; omega
        obtain ⟨c0, c1, c2, c3⟩ := H3.out.cells
        obtain ⟨z0, z1, z2⟩ := H3.out.free
        simp only [] at c2 c3
        go_still_tail 8, (by kernel_rfl)
        still_call ((itoa_any n h0 h1 _).mono (by rintro e w4 ⟨rfl, rfl⟩; exact ⟨rfl, rfl⟩))
        refine wpStill_step (fun K hK => ?_)
        go_simp
        rw [if_neg (by omega)]
        refine ⟨rfl, hK _ ?_⟩
        clear hK K
        refine wpStill_nil ?_
        all_goals
          go_wp2_with fail
          have H4 := hide (((H3.out.setRaw (⟨(x.raw ++ [32]).toArray⟩ ++ ⟨(Pq.numTxt n).toArray⟩)).drew).is (show _ = (⟨(adv s.data.toList x.a), x.raw ++ [32] ++ Pq.numTxt n, x.plain ++ [32]⟩ : TS) by simp))
          have G4 := (G3.setT 0 (.string (⟨(x.raw ++ [32]).toArray⟩ ++ ⟨(Pq.numTxt n).toArray⟩))).drew
          clear c0 c1 c2 c3 z0 z1 z2 H3 G3
          generalize (w1.setCell ⟨bt, 0, none⟩ (.string (⟨(x.raw ++ [32]).toArray⟩ ++ ⟨(Pq.numTxt n).toArray⟩))).drew = w5 at *
          obtain ⟨c0, c1, c2, c3⟩ := H4.out.cells
          obtain ⟨z0, z1, z2⟩ := H4.out.free
          simp only [] at c2 c3
          go_still_tail 8, (by kernel_rfl)
          still_call ((itoa_any n h0 h1 _).mono (by rintro e w4 ⟨rfl, rfl⟩; exact ⟨rfl, rfl⟩))
          refine wpStill_step (fun K hK => ?_)
          go_simp
          rw [if_neg (by omega)]
          refine ⟨rfl, hK _ ?_⟩
          clear hK K
          refine wpStill_nil ?_
          all_goals
            go_wp2
            go_end0
            refine ⟨rfl, ((H4.out.setPlain _).drew).is ?_, (G4.setT _ _).drew⟩
            rw [HNS.out]; simp
    · have H10 : Hid (¬ n.toNat < 10) := by show ¬ _; omega
      have HNS : Hid (Pk.numberS s.data.toList n.toNat true x = ⟨x.a, x.raw ++ [32] ++ Pq.numTxt n, x.plain ++ [32] ++ Pq.numTxt n⟩) := by show _ = _; simp [Pk.numberS, Pk.nought, Pk.blankB, H10.out, HNN.out]
      go_enter Tryz.func56, Tryz.ntmps56
      go_wp2_with fail
      have H2 := hide (((H.out.setRaw (⟨x.raw.toArray⟩ ++ ⟨#[32]⟩)).setPlain (⟨x.plain.toArray⟩ ++ ⟨#[32]⟩)).is (show _ = (⟨x.a, x.raw ++ [32], x.plain ++ [32]⟩ : TS) by simp))
      have G2' := ((G2.refl bf bt w).setT 0 (.string (⟨x.raw.toArray⟩ ++ ⟨#[32]⟩))).setT 1 (.string (⟨x.plain.toArray⟩ ++ ⟨#[32]⟩))
      have G3 := G2'
      have H3 := H2
      clear c0 c1 c2 c3 z0 z1 z2 G2' H2
      generalize (w.setCell ⟨bt, 0, none⟩ (.string (⟨x.raw.toArray⟩ ++ ⟨#[32]⟩))).setCell ⟨bt, 1, none⟩ (.string (⟨x.plain.toArray⟩ ++ ⟨#[32]⟩)) = w3 at *
      have m1 : (x.raw ++ [32]).length ≤ 1000010 := by simp; omega
      have m2 : (x.plain ++ [32]).length ≤ 1000010 := by simp; omega
      obtain ⟨c0, c1, c2, c3⟩ := H3.out.cells
      obtain ⟨z0, z1, z2⟩ := H3.out.free
      simp only [] at c2 c3
      go_still_tail 8, (by kernel_rfl)
      still_call ((itoa_any n h0 h1 _).mono (by rintro e w4 ⟨rfl, rfl⟩; exact ⟨rfl, rfl⟩))
      refine wpStill_step (fun K hK => ?_)
      go_simp
      rw [if_neg (by omega)]
      refine ⟨rfl, hK _ ?_⟩
      clear hK K
      refine wpStill_nil ?_
      all_goals
        go_wp2_with fail
        have H4 := hide (((H3.out.setRaw (⟨(x.raw ++ [32]).toArray⟩ ++ ⟨(Pq.numTxt n).toArray⟩)).drew).is (show _ = (⟨x.a, x.raw ++ [32] ++ Pq.numTxt n, x.plain ++ [32]⟩ : TS) by simp))
        have G4 := (G3.setT 0 (.string (⟨(x.raw ++ [32]).toArray⟩ ++ ⟨(Pq.numTxt n).toArray⟩))).drew
        clear c0 c1 c2 c3 z0 z1 z2 H3 G3
        generalize (w3.setCell ⟨bt, 0, none⟩ (.string (⟨(x.raw ++ [32]).toArray⟩ ++ ⟨(Pq.numTxt n).toArray⟩))).drew = w5 at *
        obtain ⟨c0, c1, c2, c3⟩ := H4.out.cells
        obtain ⟨z0, z1, z2⟩ := H4.out.free
        simp only [] at c2 c3
        go_still_tail 8, (by kernel_rfl)
        still_call ((itoa_any n h0 h1 _).mono (by rintro e w4 ⟨rfl, rfl⟩; exact ⟨rfl, rfl⟩))
        refine wpStill_step (fun K hK => ?_)
        go_simp
        rw [if_neg (by omega)]
        refine ⟨rfl, hK _ ?_⟩
        clear hK K
        refine wpStill_nil ?_
        all_goals
          go_wp2
          go_end0
          refine ⟨rfl, ((H4.out.setPlain _).drew).is ?_, (G4.setT _ _).drew⟩
          rw [HNS.out]; simp
end Go.Proofs.YtcoofnhdbejnpaaGreatDoor

