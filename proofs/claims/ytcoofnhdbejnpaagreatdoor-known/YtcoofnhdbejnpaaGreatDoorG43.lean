/- Package lines: Outs. -/
import Derived.Test.YtcoofnhdbejnpaaGreatDoorG42
import Derived.Test.YtcoofnhdbejnpaaGreatDoorG29
import Derived.Test.YtcoofnhdbejnpaaGreatDoorG21
namespace Go.Proofs.YtcoofnhdbejnpaaGreatDoor
open Go.RowKit
/-- the program's query in memory, with all that its reading gives -/
structure QX (w : World) (vb vk vf : Value) (has : Bool) (tp fr : Int) (Q : Pv.Qry) : Prop where
  rb : RdB w vb Q.cs
  rk : RdK w vk Q.ks
  rf : RdF w vf Q.fs
  bl : Q.cs.length ≤ 1000
  bc : ∀ c ∈ Q.cs, c < 3
  kl : Q.ks.length ≤ 1000
  kc : ∀ k ∈ Q.ks, k.1 < 3
  k0 : Q.ks ≠ []
  fl : Q.fs.length ≤ 1000
  fo : ∀ f ∈ Q.fs, FnOk f
  t0 : 0 ≤ tp
  t1 : tp ≤ 1000
  f0 : 0 ≤ fr
  f1 : fr ≤ 1000
  fr' : Q.frm = fr
  tt : has = true → Q.top = tp
  tf : has = false → Q.top = -1
theorem QX.below {w w' : World} {vb vk vf : Value} {has : Bool} {tp fr : Int} {Q : Pv.Qry} (h : QX w vb vk vf has tp fr Q) (hb : Below w.heap.size w w') : QX w' vb vk vf has tp fr Q :=
  ⟨h.rb.below hb, h.rk.below hb, h.rf.below hb, h.bl, h.bc, h.kl, h.kc, h.k0, h.fl, h.fo, h.t0, h.t1, h.f0, h.f1, h.fr', h.tt, h.tf⟩
theorem QX.showA {w : World} {vb vk vf : Value} {has : Bool} {tp fr : Int} {Q : Pv.Qry} (h : QX w vb vk vf has tp fr Q) : (if has = true then Pv.cutA (fr + 1) else 1) = Pv.showA Q := by
  unfold Pv.showA
  cases has with
  | true => rw [if_pos rfl, h.tt rfl, if_neg (by have := h.t0; omega), h.fr']
  | false => rw [if_neg (by simp), h.tf rfl, if_pos (by omega)]
theorem QX.showB {w : World} {vb vk vf : Value} {has : Bool} {tp fr : Int} {Q : Pv.Qry} (h : QX w vb vk vf has tp fr Q) (n : Int) : (if has = true then Pv.cutB (fr + tp) n else n) = Pv.showB Q n := by
  unfold Pv.showB
  cases has with
  | true => rw [if_pos rfl, h.tt rfl, if_neg (by have := h.t0; omega), h.fr']
  | false => rw [if_neg (by simp), h.tf rfl, if_pos (by omega)]
/-- each line of a table keeps to what a line must -/
theorem lines_ok {w : World} {vb vk vf : Value} {has : Bool} {tp fr : Int} {Q : Pv.Qry} (h : QX w vb vk vf has tp fr Q) {t : List Pv.Chg} (ht : Pv.TInv t) : ∀ L ∈ Pv.linesP Q.ks Q.cs t, LnOk Q.ks L ∧ L.length ≤ 4000 := by
  intro L hL
  have hI := Pv.LInv.lines Q.ks Q.cs _ t rfl ht.pos
  have hlen := Pv.lines_len Q.ks Q.cs t 40 (fun c hc => by have := ht.bd c hc; omega) t.length (Nat.le_refl _)
  rw [List.take_length] at hlen
  have h1 := hlen.2 L hL
  have h2 := ht.len
  have h3 : t.length * 40 ≤ 40 * 40 := Nat.mul_le_mul_right _ h2
  refine ⟨⟨h.kl, h.kc, by omega, h.k0, fun r hr c => ?_, hI.srt L hL⟩, by omega⟩
  have hp := (hI.has r).2 ⟨L, hL, hr⟩
  obtain ⟨d, hd, rfl⟩ := List.mem_map.1 ((Pv.sum_pos_iff ht.pos r).1 hp)
  exact Pv.colV_bd (ht.row d hd) c
theorem outs_take (Q : Pv.Qry) (all : List (List Pv.R3)) (k : Nat) (h : k < all.length) : Pv.outsP Q (all.take (k + 1)) = Pv.outsP Q (all.take k) ++ Pv.shownP Q all[k] := by
  unfold Pv.outsP
  rw [List.take_succ_eq_append_getElem h, List.flatMap_append]
  simp
theorem outs_len (Q : Pv.Qry) (all : List (List Pv.R3)) (b : Nat) (hb : ∀ l ∈ all, l.length ≤ b) : (Pv.outsP Q all).length ≤ all.length * b := by
  unfold Pv.outsP
  induction all with
  | nil => simp
  | cons l all ih =>
    have i := ih (fun m hm => hb m (by simp [hm]))
    have h1 := hb l (by simp)
    have h2 : (Pv.shownP Q l).length ≤ l.length := Pv.shownG_len Q l l 1
    rw [List.flatMap_cons, List.length_append, List.length_cons, Nat.add_mul]
    omega
theorem outAt_in (Q : Pv.Qry) (L : List Pv.R3) (i : Nat) (h : i < L.length) : Pv.outAt Q L (i + 1) = (L[i], Q.fs.map (fun f => Pv.valR Q.ks L f (i + 1)), 1) := by
  unfold Pv.outAt
  rw [Nat.add_sub_cancel, List.getElem?_eq_getElem h]; rfl
set_option maxRecDepth 100000 in
set_option maxHeartbeats 4000000 in
theorem lOuts_any {w : World} {vb vk vf vt : Value} {has : Bool} {tp fr : Int} {Q : Pv.Qry} {t : List Pv.Chg} (hq : QX w vb vk vf has tp fr Q) (ht : RdC w vt t) (hti : Pv.TInv t) :
    Calls Tryz.prog 80 #[qval vb vk vf has tp fr, vt] w fun e w' => Below w.heap.size w w' ∧ ∃ v, e = .returned v ∧ OwnO w' w.heap.size v (Pv.outsP Q (Pv.linesP Q.ks Q.cs t)) := by
  obtain ⟨i0, hi, hz0, hz1, hz2⟩ := info_parts infoOut
  unfold qval
  have HQ := hide hq
  have HT := hide ht
  have HTI := hide hti
  have HOK := hide (lines_ok hq hti)
  obtain ⟨xb, cb, rfl⟩ := RdG.sl hq.rb
  obtain ⟨xk, ck, rfl⟩ := RdG.sl hq.rk
  obtain ⟨xf, cf, rfl⟩ := RdG.sl hq.rf
  have HAL : Hid ((Pv.linesP Q.ks Q.cs t).length ≤ 40) := by
    show _ ≤ _
    have h1 := (Pv.lines_len Q.ks Q.cs t 40 (fun c hc => by have := hti.bd c hc; omega) t.length (Nat.le_refl _)).1
    rw [List.take_length] at h1
    have := hti.len; omega
  have hfr0 := hq.f0
  have hfq := hq.fr'
  clear hq ht
  go_enter Tryz.func80, Tryz.ntmps80
  go_upto_region 1 with fail
  have C0 := hide (K1.start w #[.slice xb Q.cs.length cb, .slice xk Q.ks.length ck, .slice xf Q.fs.length cf, .bool has, .int .i64 tp, .int .i64 fr] 112)
  generalize w.alloc (.cells #[.slice xb Q.cs.length cb, .slice xk Q.ks.length ck, .slice xf Q.fs.length cf, .bool has, .int .i64 tp, .int .i64 fr] 112) = w0 at *
  have hs0 := C0.out.size
  have HC : ∀ wx, Hid (Below w0.heap.size w0 wx → wx.cell? ⟨w.heap.size, 0, none⟩ = some (.slice xb Q.cs.length cb) ∧ wx.cell? ⟨w.heap.size, 1, none⟩ = some (.slice xk Q.ks.length ck) ∧ wx.cell? ⟨w.heap.size, 2, none⟩ = some (.slice xf Q.fs.length cf) ∧ wx.cell? ⟨w.heap.size, 3, none⟩ = some (.bool has) ∧ wx.cell? ⟨w.heap.size, 4, none⟩ = some (.int .i64 tp) ∧ wx.cell? ⟨w.heap.size, 5, none⟩ = some (.int .i64 fr)) := fun wx hb => by
    have C1 := C0.out.below hb
    exact ⟨cell_of_heap C1.a 0, cell_of_heap C1.a 1, cell_of_heap C1.a 2, cell_of_heap C1.a 3, cell_of_heap C1.a 4, cell_of_heap C1.a 5⟩
  obtain ⟨q0, q1, q2, q3, q4, q5⟩ := (HC _).out (Below.refl _ _)
  have HB0 := hide (HQ.out.below C0.out.bl)
  go_wp2_with fail
  refine (ofTable_any HB0.out.rb HB0.out.rk HB0.out.rf (HT.out.below C0.out.bl) HB0.out.bl HB0.out.bc HB0.out.kl HB0.out.kc (by have := hti.len; omega) (fun c hc => by have := hti.bd c hc; omega)).mono ?_
  rintro e w1 ⟨e1, va, rfl, vs, hla⟩
  have B1 := hide e1
  have A1 := hide hla
  obtain ⟨xa, ca, rfl⟩ := hla.sl
  clear q0 q1 q2 q3 q4 q5 e1 hla hti HB0
  generalize hall : Pv.linesP Q.ks Q.cs t = all at *
  have HALL := hide hall
  clear hall
  have hal40 := HAL.out
  go_wp2_with fail
  go_loopw [5, 7] (fun l5 r7 wr => ∃ k : Nat, k ≤ all.length ∧ r7 = .int .i64 k ∧ OwnO wr w1.heap.size l5 (Pv.outsP Q (all.take k)) ∧ Below w1.heap.size w1 wr) (fun _ r7 _ => all.length - (intOf r7).toNat)
  case atStart => exact ⟨0, by omega, rfl, OwnO.nil _ _, Below.refl _ _⟩
  case round =>
    obtain ⟨k, hk, rfl, hown, hb⟩ := hrel
    have O2 := hide hown
    have B2 := hide hb
    clear hown hb
    have BX := hide (B1.out.trans (B2.out.mono B1.out.size))
    have BW := hide (C0.out.below BX.out).bl
    by_cases hlt : k < all.length
    · have hlt' : (k : Int) < (all.length : Int) := by omega
      obtain ⟨ga, capa, e⟩ : ∃ g cap, (Value.slice xa all.length ca) = .slice (some ⟨g, 0, none⟩) all.length cap := by
        rcases own_form A1.out.row with ⟨_, h2⟩ | h
        · omega
        · exact h
      cases e
      obtain ⟨q0, q1, q2, q3, q4, q5⟩ := (HC _).out BX.out
      obtain ⟨hok, hl4⟩ := HOK.out all[k] (List.getElem_mem hlt)
      have HLK := hide hok
      clear hok
      have HLN : ∀ wx, Hid (Below w1.heap.size w1 wx → LnAt wx ga (k * 2) (.slice xk Q.ks.length ck) (vs[k]'(by rw [A1.out.len]; exact hlt)) Q.ks all[k]) := fun wx h =>
        (A1.out.below h).at (HQ.out.rk.below (C0.out.below (B1.out.trans (h.mono B1.out.size))).bl) k hlt
      have HTK := hide (outs_take Q all k hlt)
      have HSG := hide (Pv.shownP_seg (q := Q) (by omega) all[k])
      have HOL := hide (outs_len Q (all.take k) 4000 (fun l hl => (HOK.out l (List.mem_of_mem_take hl)).2))
      have hol : (Pv.outsP Q (all.take k)).length ≤ 160000 := by
        have h1 := HOL.out
        have h2 := HAL.out
        rw [List.length_take] at h1
        have h3 : min k all.length * 4000 ≤ 40 * 4000 := Nat.mul_le_mul_right _ (by omega)
        omega
      obtain ⟨xr, cr, hvs⟩ := RdG.sl ((HLN _).out (Below.refl _ _)).rc
      have HVS := hide hvs
      clear hvs
      have HL2 := hide ((HLN _).out B2.out)
      have q6 := HL2.out.c1
      rw [HVS.out] at q6
      have HQA := hide (HQ.out.showA)
      have HQB := hide (HQ.out.showB all[k].length)
      have HCS : Hid (∀ W : World, Below wr.heap.size wr W → Calls Tryz.prog 101 #[.pointer (some ⟨ga, k * 2, none⟩), .agg #[.slice xb Q.cs.length cb, .slice xk Q.ks.length ck, .slice xf Q.fs.length cf, .bool has, .int .i64 tp, .int .i64 fr]] W fun e w' => e = .returned (.tuple #[.int .i64 (Pv.showA Q), .int .i64 (Pv.showB Q all[k].length)]) ∧ Below W.heap.size W w') := fun W hW => by
        have q7 := ((HLN _).out (B2.out.trans (hW.mono B2.out.size))).c1
        rw [HVS.out] at q7
        refine (lshown_any q7 _ _ _ tp fr HQ.out.t0 HQ.out.t1 HQ.out.f0 HQ.out.f1 has ⟨⟨_, _, _, rfl⟩, ⟨_, _, _, rfl⟩, ⟨_, _, _, rfl⟩⟩).mono ?_
        rintro e w' ⟨he, hb⟩
        rw [HQA.out, HQB.out] at he
        exact ⟨he, hb⟩
      have HX : ∀ w', Hid (Below wr.heap.size wr w' → (fun w' => w'.cell? ⟨w.heap.size, 0, none⟩ = some (.slice xb Q.cs.length cb) ∧ w'.cell? ⟨w.heap.size, 1, none⟩ = some (.slice xk Q.ks.length ck) ∧ w'.cell? ⟨w.heap.size, 2, none⟩ = some (.slice xf Q.fs.length cf) ∧ w'.cell? ⟨w.heap.size, 3, none⟩ = some (.bool has) ∧ w'.cell? ⟨w.heap.size, 4, none⟩ = some (.int .i64 tp) ∧ w'.cell? ⟨w.heap.size, 5, none⟩ = some (.int .i64 fr) ∧ Hid (Below wr.heap.size wr w')) w') := fun w' hb => by
        obtain ⟨q0, q1, q2, q3, q4, q5⟩ := (HC _).out (BX.out.trans (hb.mono BX.out.size))
        exact ⟨q0, q1, q2, q3, q4, q5, hb⟩
      generalize hsA : Pv.showA Q = sA at *
      generalize hsB : Pv.showB Q all[k].length = sB at *
      have HSA := hide hsA
      have HSB := hide hsB
      clear hsA hsB HQA HQB q6
      go_upto_region 6 with fail
      clear q0 q1 q2 q3 q4 q5
      go_region_held3 (fun w' => w'.cell? ⟨w.heap.size, 0, none⟩ = some (.slice xb Q.cs.length cb) ∧ w'.cell? ⟨w.heap.size, 1, none⟩ = some (.slice xk Q.ks.length ck) ∧ w'.cell? ⟨w.heap.size, 2, none⟩ = some (.slice xf Q.fs.length cf) ∧ w'.cell? ⟨w.heap.size, 3, none⟩ = some (.bool has) ∧ w'.cell? ⟨w.heap.size, 4, none⟩ = some (.int .i64 tp) ∧ w'.cell? ⟨w.heap.size, 5, none⟩ = some (.int .i64 fr) ∧ Hid (Below wr.heap.size wr w')) (first | exact (HX _).out (below_drew0 _) | (refine (HX _).out ?_; go_split_ands; exact Below.trans (Hid.out (by assumption)) (Below.mono (by assumption) (Below.size (Hid.out (by assumption)))))) ((go_at_call 101; refine (HCS.out _ (by go_split_ands; exact Hid.out (by assumption))).mono ?_; rintro e w3 ⟨rfl, b3⟩))
      rename_i hH
      have B3 := hide (B2.out.trans (hH.2.2.2.2.2.2.out.mono B2.out.size))
      have O3 := hide (O2.out.below hH.2.2.2.2.2.2.out)
      clear hH b3 O2 BX BW HL2 B2 HX HCS HSA HSB
      obtain ⟨hs1, hs2, hs3, hs4⟩ := HSG.out
      have HSH := hide hs1
      clear HSG hs1
      obtain ⟨a, rfl⟩ : ∃ a : Nat, sA = (a : Int) + 1 := ⟨(sA - 1).toNat, by omega⟩
      obtain ⟨b, rfl⟩ : ∃ b : Nat, sB = (b : Int) := ⟨sB.toNat, by omega⟩
      have hbl : b ≤ all[k].length := by omega
      have HSH2 : Hid (Pv.outsP Q (all.take (k + 1)) = Pv.outsP Q (all.take k) ++ Pv.segO Q all[k] (a + 1) b) := by
        show _ = _
        rw [HTK.out, HSH.out, show ((a : Int) + 1).toNat = a + 1 by omega, show ((b : Int)).toNat = b by omega]
      clear hs2 hs3 hs4 HSH HTK HOL
      generalize Pv.outsP Q (all.take k) = os at *
      go_wp2_with fail
      go_loopw [5, 10] (fun l5 r10 wr => ∃ c : Nat, a ≤ c ∧ (c ≤ b ∨ c = a) ∧ r10 = .int .i64 ((c : Int) + 1) ∧ OwnO wr w1.heap.size l5 (os ++ Pv.segO Q all[k] (a + 1) c) ∧ Below w1.heap.size w1 wr) (fun _ r10 _ => b + 1 - (intOf r10).toNat)
      case atStart => exact ⟨a, Nat.le_refl _, .inr rfl, rfl, by rw [Pv.segO_none Q _ (a + 1) a (by omega), List.append_nil]; exact O3.out, B3.out⟩
      case round =>
        obtain ⟨c, hac, hcb, rfl, hown, hb⟩ := hrel
        have B4 := hide hb
        obtain ⟨vz, hvz, hrow⟩ := hown
        have VZ := hide hvz
        have O4 := hide hrow
        obtain ⟨x5, n5, c5, rfl⟩ := own_sl hrow
        clear hb hvz hrow
        by_cases hlc : c < b
        · have hlc' : (c : Int) + 1 ≤ (b : Int) := by omega
          have hcl : c < all[k].length := by omega
          generalize wr = wy at *
          have BX := hide (B1.out.trans (B4.out.mono B1.out.size))
          have HSO := hide (Pv.segO_succ Q all[k] (a + 1) c (by omega))
          rw [outAt_in Q all[k] c hcl] at HSO
          have hsl := Pv.segO_len Q all[k] (a + 1) c
          have hln : (os ++ Pv.segO Q all[k] (a + 1) c).length ≤ 170000 := by rw [List.length_append]; omega
          have HCO : Hid (∀ W : World, Below wy.heap.size wy W → Calls Tryz.prog 102 #[.pointer (some ⟨ga, k * 2, none⟩), .slice xf Q.fs.length cf, .int .i64 ((c : Int) + 1)] W fun e w' => Below W.heap.size W w' ∧ ∃ x n cc, e = .returned (.agg #[.int .i64 all[k][c].1, .int .i64 all[k][c].2.1, .int .i64 all[k][c].2.2, .slice x n cc, .int .i64 1]) ∧ w'.ownsRow W.heap.size 52 2 (.slice x n cc) Q.fs.length (rvals (Q.fs.map (fun f => Pv.valR Q.ks all[k] f (c + 1))))) := fun W hW => by
            refine (lout_any ((HLN _).out (B4.out.trans (hW.mono B4.out.size))) HLK.out (HQ.out.rf.below (C0.out.below (BX.out.trans (hW.mono BX.out.size))).bl) HQ.out.fo HQ.out.fl c hcl).mono ?_
            rintro e w' ⟨hb, s, he, ho⟩
            obtain ⟨x, n, cc, rfl⟩ := own_sl ho
            exact ⟨hb, x, n, cc, he, ho⟩
          have HX : ∀ w', Hid (Below wy.heap.size wy w' → (fun w' => w'.cell? ⟨w.heap.size, 2, none⟩ = some (.slice xf Q.fs.length cf) ∧ Hid (Below wy.heap.size wy w')) w') := fun w' hb => ⟨((HC _).out (BX.out.trans (hb.mono BX.out.size))).2.2.1, hb⟩
          generalize hvl : Q.fs.map (fun f => Pv.valR Q.ks all[k] f (c + 1)) = vals at *
          have hvll : vals.length = Q.fs.length := by rw [← hvl]; simp
          clear hvl
          go_upto_region 10 with fail
          go_cut [11] from 35 to 45 (fun q11 wz => ∃ bb x n cc, q11 = .pointer (some ⟨bb, 0, none⟩) ∧ Blk wz bb #[.int .i64 all[k][c].1, .int .i64 all[k][c].2.1, .int .i64 all[k][c].2.2, .slice x n cc, .int .i64 1] 55 ∧ RdV wz (.slice x n cc) vals ∧ Below wy.heap.size wy wz)
          case first =>
            go_region_held3 (fun w' => w'.cell? ⟨w.heap.size, 2, none⟩ = some (.slice xf Q.fs.length cf) ∧ Hid (Below wy.heap.size wy w')) (first | exact (HX _).out (below_drew0 _) | (refine (HX _).out ?_; go_split_ands; exact Below.trans (Hid.out (by assumption)) (Below.mono (by assumption) (Below.size (Hid.out (by assumption))))) | (refine (HX _).out ?_; go_split_ands; exact Below.alloc (Hid.out (by assumption)) (Below.size (Hid.out (by assumption))) _) | exact (HX _).out ((undrew (by assumption)).alloc (Below.size (undrew (by assumption))) _) | (refine (HX _).out ?_; go_split_ands; exact Below.setCell (Below.setCell (Below.setCell (Below.setCell (Below.setCell (Hid.out (by assumption)) (by simp) _) (by simp) _) (by simp) _) (by simp) _) (by simp) _)) ((go_at_call 102; refine (HCO.out _ (by go_split_ands; exact Hid.out (by assumption))).mono ?_; rintro e w5 ⟨b5, x, n, cc, rfl, own5⟩; obtain ⟨hc5, hf5⟩ := bcell b5))
            · clear hc5 hf5
              go_wp2
              go_meet
              case rel => exact ⟨_, x, n, cc, rfl, heap_alloc_new w5 _, (RdV.ofOwn own5).below ((Below.refl _ _).alloc (Nat.le_refl _) _), (undrew b5).alloc (undrew b5).size _⟩
            · clear hc5 hf5
              have hz : Below wy.heap.size wy (wy.alloc (.cells #[.int .i64 0, .int .i64 0, .int .i64 0, .slice none 0 0, .int .i64 0] 55)).drew := below_dB ((Below.refl _ _).alloc (Nat.le_refl _) _)
              have hz0' : Blk (wy.alloc (.cells #[.int .i64 0, .int .i64 0, .int .i64 0, .slice none 0 0, .int .i64 0] 55)).drew wy.heap.size #[.int .i64 0, .int .i64 0, .int .i64 0, .slice none 0 0, .int .i64 0] 55 := heap_alloc_new wy _
              have HZ := hide (set5 (hz0'.below b5) (.int .i64 all[k][c].1) (.int .i64 all[k][c].2.1) (.int .i64 all[k][c].2.2) (.slice x n cc) (.int .i64 1))
              have HZ2 := hide (((((((hz.trans (b5.mono hz.size)).setCell (p := ⟨wy.heap.size, 0, none⟩) (Nat.le_refl _) (.int .i64 all[k][c].1)).setCell (p := ⟨wy.heap.size, 1, none⟩) (Nat.le_refl _) (.int .i64 all[k][c].2.1)).setCell (p := ⟨wy.heap.size, 2, none⟩) (Nat.le_refl _) (.int .i64 all[k][c].2.2)).setCell (p := ⟨wy.heap.size, 3, none⟩) (Nat.le_refl _) (.slice x n cc)).setCell (p := ⟨wy.heap.size, 4, none⟩) (Nat.le_refl _) (.int .i64 1)))
              have hne : ∀ j, (Value.slice x n cc).ownBlock = some j → j ≠ wy.heap.size := fun j hj e => by
                have h1 := (own5.lt j hj).1
                have h2 : (wy.alloc (.cells #[.int .i64 0, .int .i64 0, .int .i64 0, .slice none 0 0, .int .i64 0] 55)).drew.heap.size = wy.heap.size + 1 := by simp
                omega
              have HZ3 := hide (RdV.ofOwn (own_set_far (j := 4) (x := .int .i64 1) (own_set_far (j := 3) (x := .slice x n cc) (own_set_far (j := 2) (x := .int .i64 all[k][c].2.2) (own_set_far (j := 1) (x := .int .i64 all[k][c].2.1) (own_set_far (j := 0) (x := .int .i64 all[k][c].1) own5 hne) hne) hne) hne) hne))
              clear hz hz0' hne
              go_wp2
              go_meet
              case rel => exact ⟨_, x, n, cc, rfl, HZ.out, HZ3.out, HZ2.out⟩
          case rest =>
            obtain ⟨bb, x, n, cc, rfl, hbk, hrv, hbz⟩ := hcut
            have v0 : wc.cell? ⟨bb, 0, none⟩ = some (.int .i64 all[k][c].1) := hbk.cell 0
            have v1 : wc.cell? ⟨bb, 1, none⟩ = some (.int .i64 all[k][c].2.1) := hbk.cell 1
            have v2 : wc.cell? ⟨bb, 2, none⟩ = some (.int .i64 all[k][c].2.2) := hbk.cell 2
            have v3 : wc.cell? ⟨bb, 3, none⟩ = some (.slice x n cc) := hbk.cell 3
            have v4 : wc.cell? ⟨bb, 4, none⟩ = some (.int .i64 1) := hbk.cell 4
            have VC := hide (VZ.out.below hbz)
            have OC := hide (own_below O4.out hbz)
            have RV := hide hrv
            have BC := hide (B4.out.trans (hbz.mono B4.out.size))
            have hs9 := BC.out.size
            clear hbk hrv hbz
            generalize hL : os ++ Pv.segO Q all[k] (a + 1) c = L at *
            have HSO2 : Hid (os ++ Pv.segO Q all[k] (a + 1) (c + 1) = L ++ [(all[k][c], vals, 1)]) := by
              show _ = _
              rw [HSO.out, ← List.append_assoc, hL]
            clear hL HSO
            go_wp2_with (at_builtin; refine wpList_append_own_at _ rfl (.tmp 42) (.tmp 44) 42 rfl w1.heap.size 55 i0 _ 5 56 Tryz.underlying42 hi hz0 hz1 hz2 rfl (by decide) _ L.length (routs L vz) rfl (OC.out.alloc _) _ 1 1 (oc (all[k][c], vals, 1) (.slice x n cc)) rfl rfl (World.news_of_block (heap_alloc_new _ _)) (oc_one _ _ _ _) (by unfold maxLen; omega) (by omega) (by simp; omega) ?_; intro v8 w8 hown8 hgrow8 hnil8 hat8; have b8 : Hid (Below w1.heap.size w1 w8) := (BC.out.alloc hs9 _).grown hgrow8 (by simp; omega) (fun k hk => (OC.out.lt k hk).1); have O8 := hide (OwnO.app (VC.out.below ((Below.refl _ _).alloc (Nat.le_refl _) _)) (RV.out.below ((Below.refl _ _).alloc (Nat.le_refl _) _)) (OC.out.alloc _) hgrow8 hown8); clear hown8 hgrow8 hnil8 hat8)
            go_roundw
            case rel => exact ⟨c + 1, by omega, .inl (by omega), by go_num, by rw [HSO2.out]; exact O8.out, b8.out⟩
            case measure => simp [intOf]; omega
        · have hlc' : ¬ (c : Int) + 1 ≤ (b : Int) := by omega
          have HEQ : Hid (os ++ Pv.segO Q all[k] (a + 1) c = Pv.outsP Q (all.take (k + 1))) := by
            show _ = _
            rw [HSH2.out]
            by_cases hc : c = b
            · rw [hc]
            · have : c = a := by omega
              subst this
              rw [Pv.segO_none Q _ (c + 1) c (by omega), Pv.segO_none Q _ (c + 1) b (by omega)]
          go_wp2
          go_roundw
          case rel => exact ⟨k + 1, by omega, by go_num, by rw [← HEQ.out]; exact ⟨vz, VZ.out, O4.out⟩, B4.out⟩
          case measure => simp [intOf]; omega
    · have hlt' : ¬ (k : Int) < (all.length : Int) := by omega
      obtain rfl : k = all.length := by omega
      rw [List.take_length] at O2
      have hs1 := B1.out.size
      go_wp2
      go_ret
      refine ⟨BW.out, _, rfl, ?_⟩
      obtain ⟨vz, h1, h2⟩ := O2.out
      rw [HALL.out]
      exact ⟨vz, h1, own_base2 h2 (by omega)⟩
end Go.Proofs.YtcoofnhdbejnpaaGreatDoor

/- Package tables: add. -/
namespace Go.Proofs.YtcoofnhdbejnpaaGreatDoor
open Go.RowKit
theorem tadd_any {w : World} {b B : Nat} {v : Value} {l : List Pv.Chg} (hBb : B ≤ b) (hBw : B ≤ w.heap.size) (hb : w.heap[b]? = some (.cells #[v] 146 (0, 0))) (ho : w.ownsRow B 50 4 v l.length (rchgs l)) (hl : l.length ≤ 900) (hbd : ∀ c ∈ l, -100000000 ≤ c.2 ∧ c.2 ≤ 100000000) (p u q n : Int) (hn1 : -100000000 ≤ n) (hn2 : n ≤ 100000000) :
    Calls Tryz.prog 98 #[.pointer (some ⟨b, 0, none⟩), .agg #[.int .i64 p, .int .i64 u, .int .i64 q, .int .i64 n]] w fun e w' => e = .returned (.tuple #[]) ∧ Below B w w' ∧ ∃ v', w'.heap[b]? = some (.cells #[v'] 146 (0, 0)) ∧ w'.ownsRow B 50 4 v' (Pv.addF ((p, u, q), n) l).length (rchgs (Pv.addF ((p, u, q), n) l)) := by
  by_cases h : ∃ hp : Pv.placeF (p, u, q) l < l.length, l[Pv.placeF (p, u, q) l].1 = (p, u, q)
  · obtain ⟨hp, he⟩ := h
    exact tadd_same hBb hBw hb ho hl hbd p u q n hn1 hn2 hp he
  · exact tadd_new hBb hBw hb ho hl p u q n (fun hp he => h ⟨hp, he⟩)
end Go.Proofs.YtcoofnhdbejnpaaGreatDoor

/- Package tables: sumsWith. -/
namespace Go.Proofs.YtcoofnhdbejnpaaGreatDoor
open Go.RowKit
/-- the sums so far -/
def SW (w0 W : World) (b B : Nat) (L : List Pv.Chg) : Prop := Below B w0 W ∧ ∃ v, W.heap[b]? = some (.cells #[v] 146 (0, 0)) ∧ W.ownsRow B 50 4 v (Pv.sumsF L).length (rchgs (Pv.sumsF L))
theorem sums_bd {L : List Pv.Chg} (h : ∀ c ∈ L, -40 ≤ c.2 ∧ c.2 ≤ 40) (hl : L.length ≤ 900) : ∀ c ∈ Pv.sumsF L, -100000000 ≤ c.2 ∧ c.2 ≤ 100000000 := by
  intro c hc
  obtain ⟨j, hj, rfl⟩ := List.mem_iff_getElem.1 hc
  have e := Pv.srt_sum (Pv.sumsF_srt L) j hj
  rw [Pv.sumsF_sum] at e
  have := Pv.sumOf_bd (l := L) (b := 40) h (by omega) (Pv.sumsF L)[j].1
  omega
theorem SW.step {w0 W : World} {b B : Nat} {L : List Pv.Chg} (h : SW w0 W b B L) (hBb : B ≤ b) (hB : B ≤ w0.heap.size) (c : Pv.Chg) (hL : ∀ c ∈ L, -40 ≤ c.2 ∧ c.2 ≤ 40) (hl : L.length ≤ 900) (hc : -40 ≤ c.2 ∧ c.2 ≤ 40) :
    Calls Tryz.prog 98 #[.pointer (some ⟨b, 0, none⟩), .agg #[.int .i64 c.1.1, .int .i64 c.1.2.1, .int .i64 c.1.2.2, .int .i64 c.2]] W fun e w' => e = .returned (.tuple #[]) ∧ SW w0 w' b B (L ++ [c]) := by
  obtain ⟨hbe, v, h1, h2⟩ := h
  have hs : B ≤ W.heap.size := Nat.le_trans hB hbe.size
  refine (tadd_any hBb hs h1 h2 (by have := Pv.sumsF_len L; omega) (sums_bd hL hl) c.1.1 c.1.2.1 c.1.2.2 c.2 (by omega) (by omega)).mono ?_
  rintro e w' ⟨he, hb', v', h1', h2'⟩
  refine ⟨he, hbe.trans hb', v', h1', ?_⟩
  rw [Pv.sumsF_snoc]
  exact h2'
end Go.Proofs.YtcoofnhdbejnpaaGreatDoor

/- Package tables: sumsWith. -/
namespace Go.Proofs.YtcoofnhdbejnpaaGreatDoor
open Go.RowKit
theorem SW.from {w0 W : World} {b B : Nat} {L : List Pv.Chg} (h : SW w0 W b B L) : ∀ k, k < B → W.heap[k]? = w0.heap[k]? := fun k hk => h.1.block k hk
set_option maxRecDepth 100000 in
set_option maxHeartbeats 2000000 in
theorem sumsWith_any {w : World} {vt vb : Value} {t bt : List Pv.Chg} (ht : RdC w vt t) (hb : RdC w vb bt) (hl1 : t.length ≤ 100) (hl2 : bt.length ≤ 100) (hbd1 : ∀ c ∈ t, -40 ≤ c.2 ∧ c.2 ≤ 40) (hbd2 : ∀ c ∈ bt, -40 ≤ c.2 ∧ c.2 ≤ 40) :
    Calls Tryz.prog 76 #[.agg #[vt], vb] w fun e w' => Below w.heap.size w w' ∧ ∃ v, e = .returned (.agg #[v]) ∧ w'.ownsRow w.heap.size 50 4 v (Pv.sumsF (t ++ bt)).length (rchgs (Pv.sumsF (t ++ bt))) := by
  have HT := hide ht
  have HBT := hide hb
  have H1 := hide hbd1
  have H2 := hide hbd2
  obtain ⟨xt, nt, ct, rfl⟩ : ∃ a n c, vt = .slice a n c := by
    rcases ht.form with ⟨h, _⟩ | ⟨g, off, cap, h, _⟩
    · exact ⟨_, _, _, h⟩
    · exact ⟨_, _, _, h⟩
  obtain ⟨xb, nb, cb, rfl⟩ : ∃ a n c, vb = .slice a n c := by
    rcases hb.form with ⟨h, _⟩ | ⟨g, off, cap, h, _⟩
    · exact ⟨_, _, _, h⟩
    · exact ⟨_, _, _, h⟩
  obtain rfl := ht.len
  obtain rfl := hb.len
  clear ht hb hbd1 hbd2
  go_enter Tryz.func76, Tryz.ntmps76
  go_upto_region 2 with fail
  have C0 := hide (K3.start w #[.slice xt t.length ct] 106 #[.slice none 0 0] 146 #[.slice none 0 0] 146)
  generalize (((w.alloc (.cells #[.slice xt t.length ct] 106)).alloc (.cells #[.slice none 0 0] 146)).alloc (.cells #[.slice none 0 0] 146)) = w0 at *
  have hs0 : w.heap.size + 1 + 1 < w0.heap.size := (Array.getElem?_eq_some_iff.1 C0.out.c).1
  have HW : Hid (∀ W L, SW w0 W (w.heap.size + 1 + 1) (w.heap.size + 1 + 1) L → Below w.heap.size w W ∧ W.cell? ⟨w.heap.size, 0, none⟩ = some (.slice xt t.length ct) ∧ Blk W (w.heap.size + 1) #[.slice none 0 0] 146) := fun W L h => by
    refine ⟨C0.out.bl.trans (h.1.mono (by omega)), ?_, ?_⟩
    · have e : W.heap[w.heap.size]? = some (.cells #[.slice xt t.length ct] 106 (0, 0)) := (h.1.block _ (by omega)).trans C0.out.a
      exact cell_of_heap e 0
    · exact (h.1.block _ (by omega)).trans C0.out.b
  go_wp2
  go_loopw [6] (fun i wr => ∃ k : Nat, k ≤ t.length ∧ i = .int .i64 k ∧ SW w0 wr (w.heap.size + 1 + 1) (w.heap.size + 1 + 1) (t.take k)) (fun i _ => t.length - (intOf i).toNat)
  case atStart => exact ⟨0, by omega, rfl, Below.refl _ _, _, C0.out.c, World.ownsRow_nil _ _ _ _⟩
  case round =>
    obtain ⟨k, hk, rfl, hsw⟩ := hrel
    have S1 := hide hsw
    clear hsw
    obtain ⟨be1, q0, _⟩ := HW.out _ _ S1.out
    have B1 := hide be1
    clear be1
    by_cases hlt : k < t.length
    · have hlt' : (k : Int) < (t.length : Int) := by omega
      obtain ⟨g, off, cap, e, hcap⟩ := HT.out.form1 (by omega)
      cases e
      obtain ⟨c0, c1, c2, c3⟩ := (HT.out.below B1.out).cell k hlt
      have HTK := hide (List.take_succ_eq_append_getElem hlt)
      go_wp2_with fail
      refine (S1.out.step (Nat.le_refl _) (by omega) t[k] (fun c hc => H1.out c (List.mem_of_mem_take hc)) (by rw [List.length_take]; omega) (H1.out _ (List.getElem_mem hlt))).mono ?_
      rintro e w3 ⟨rfl, s3⟩
      have S3 := hide s3
      clear s3 c0 c1 c2 c3 q0
      go_wp2
      go_roundw
      case rel => exact ⟨k + 1, by omega, by go_num, by rw [HTK.out]; exact S3.out⟩
      case measure => simp [intOf]; omega
    · have hlt' : ¬ (k : Int) < (t.length : Int) := by omega
      obtain rfl : k = t.length := by omega
      rw [List.take_length] at S1
      go_wp2
      generalize wr = wq at *
      go_loopw [7] (fun i wr => ∃ k : Nat, k ≤ bt.length ∧ i = .int .i64 k ∧ SW w0 wr (w.heap.size + 1 + 1) (w.heap.size + 1 + 1) (t ++ bt.take k)) (fun i _ => bt.length - (intOf i).toNat)
      case atStart => exact ⟨0, by omega, rfl, by simpa using S1.out⟩
      case round =>
        obtain ⟨k, hk, rfl, hsw⟩ := hrel
        have S2 := hide hsw
        clear hsw
        obtain ⟨be2, _, r2⟩ := HW.out _ _ S2.out
        have B2 := hide be2
        have R2 := hide r2
        clear be2 r2
        by_cases hlt : k < bt.length
        · have hlt' : (k : Int) < (bt.length : Int) := by omega
          obtain ⟨g, off, cap, e, hcap⟩ := HBT.out.form1 (by omega)
          cases e
          obtain ⟨c0, c1, c2, c3⟩ := (HBT.out.below B2.out).cell k hlt
          have HTK : Hid (t ++ bt.take (k + 1) = (t ++ bt.take k) ++ [bt[k]]) := by show _ = _; rw [List.take_succ_eq_append_getElem hlt, List.append_assoc]
          go_wp2_with fail
          refine (S2.out.step (Nat.le_refl _) (by omega) bt[k] (fun c hc => by
            rcases List.mem_append.1 hc with h | h
            · exact H1.out c h
            · exact H2.out c (List.mem_of_mem_take h)) (by rw [List.length_append, List.length_take]; omega) (H2.out _ (List.getElem_mem hlt))).mono ?_
          rintro e w3 ⟨rfl, s3⟩
          have S3 := hide s3
          clear s3 c0 c1 c2 c3
          go_wp2
          go_roundw
          case rel => exact ⟨k + 1, by omega, by go_num, by rw [HTK.out]; exact S3.out⟩
          case measure => simp [intOf]; omega
        · have hlt' : ¬ (k : Int) < (bt.length : Int) := by omega
          obtain rfl : k = bt.length := by omega
          rw [List.take_length] at S2
          obtain ⟨_, v, hv, how⟩ := S2.out
          obtain ⟨xv, nv, cv, rfl⟩ := own_sl how
          have HOW := hide how
          have v0 : wr.cell? ⟨w.heap.size + 1 + 1, 0, none⟩ = some (.slice xv nv cv) := cell_of_heap hv 0
          have u0 : wr.cell? ⟨w.heap.size + 1, 0, none⟩ = some (.slice none 0 0) := R2.out.cell 0
          have fz := free_of_heap R2.out 0
          have hR2 : wr.heap[w.heap.size + 1]? = some (.cells #[.slice none 0 0] 146 (0, 0)) := R2.out
          have l0 : (wr.setCell ⟨w.heap.size + 1, 0, none⟩ (.slice xv nv cv)).cell? ⟨w.heap.size + 1, 0, none⟩ = some (.slice xv nv cv) := by
            simp [World.cell?, World.setCell, Array.getElem?_modify, hR2]
          clear hv how hR2
          go_wp2
          refine bodyPost_ret (v := .agg #[.slice xv nv cv]) (by simp [results, Tryz.results76, go_sem, l0]) rfl ⟨B2.out.setCell (p := ⟨w.heap.size + 1, 0, none⟩) (by simp) _, _, rfl, ?_⟩
          refine own_base2 (HOW.out.kept (grown_set wr (w.heap.size + 1) 0 _) ?_) (by omega)
          cases hob : (Value.slice xv nv cv).ownBlock with
          | none => exact .inl rfl
          | some k2 =>
            right
            intro e
            cases e
            have := (HOW.out.lt _ hob).1
            omega
end Go.Proofs.YtcoofnhdbejnpaaGreatDoor

