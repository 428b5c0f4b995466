/- Package paneskeep: Settled answers true. -/
import Derived.Test.YtcoofnhdbejnpaaGreatDoorG39
import Derived.Test.YtcoofnhdbejnpaaGreatDoorG42
namespace Go.Proofs.YtcoofnhdbejnpaaGreatDoor
open Go.RowKit
def UM2x (N : Nat) (w wr : World) (bc gx gy : Nat) (Q : Pv.Qry) (Q2 : Pv.Qry) : Prop := ∃ cs all t, UM2 N w wr bc gx gy Q cs all t Q2 []
/-- what is left of the counts from the place j on, from the last to the first -/
def oneTo (cs : List Pv.Chg) (j : Nat) : List Pv.Chg := Pk.oneF (cs.drop j)
theorem oneTo_all (cs : List Pv.Chg) : oneTo cs 0 = Pk.oneF cs := rfl
theorem oneTo_end (cs : List Pv.Chg) (j : Nat) (h : cs.length ≤ j) : oneTo cs j = [] := by unfold oneTo; rw [List.drop_eq_nil_of_le h]; rfl
theorem oneTo_step (cs : List Pv.Chg) (j : Nat) (h : j < cs.length) : oneTo cs j = oneTo cs (j + 1) ++ (if 0 < cs[j].2 then [cs[j]] else []) := by
  unfold oneTo Pk.oneF
  rw [List.drop_eq_getElem_cons h, List.reverse_cons, List.filter_append]
  congr 1
  by_cases q : 0 < cs[j].2
  · rw [if_pos q, List.filter_cons_of_pos (by simp [q])]; rfl
  · rw [if_neg q, List.filter_cons_of_neg (by simp [q])]; rfl
theorem oneTo_len (cs : List Pv.Chg) (j : Nat) : (oneTo cs j).length ≤ cs.length := by
  unfold oneTo Pk.oneF
  refine Nat.le_trans (List.length_filter_le _ _) ?_
  simp
theorem UM2.start {w w1 w2 : World} {gx gy : Nat} {vb vk vf ub uk uf : Value} {has has2 : Bool} {tp fr tp2 fr2 : Int} {Q Q2 : Pv.Qry} (hb : Below w.heap.size w w1) (hg : w.heap.size ≤ gx) (hx : XV w1 gx vb vk vf has tp fr (.slice none 0 0) Q []) (hne : gy ≠ gx) (hy : XV w1 gy ub uk uf has2 tp2 fr2 (.slice none 0 0) Q2 []) (hw : w2 = w1.alloc (.cells #[.slice none 0 0, .slice none 0 0, .int .i64 0] 66)) : UM2 w.heap.size w w2 w1.heap.size gx gy Q [] 0 [] Q2 [] := by
  refine ⟨UM.start hb hg hx hw, hne, ub, uk, uf, has2, tp2, fr2, .slice none 0 0, ?_⟩
  subst hw
  exact hy.below ((Below.refl w1.heap.size w1).alloc (Nat.le_refl _) _)
set_option maxRecDepth 100000 in
set_option maxHeartbeats 8000000 in
theorem settled_walk (s : ByteArray) (b t0 : Bool) (vs : Value) (len : Nat) (S : Nat → ByteArray) (w : World) (hs : s.size ≤ maxLen) (hl : len ≤ 1000000000000000)
    (hv : (vs = .slice none 0 0 ∧ len = 0) ∨ ∃ a cap, vs = .slice (some a) len cap ∧ ∀ i, i < len → a.block < w.heap.size ∧ w.cell? (a.add i) = some (.string (S i)) ∧ (S i).size ≤ maxLen) :
    Calls Tryz.prog 9 #[.string s, .bool b, .bool t0, vs] w fun e w' => e = .returned (.bool true) ∧ Below w.heap.size w w' := by
  obtain ⟨i0, hti, hz0, hz1, hz2⟩ := info_parts infoChg
  have HA := hide (Pk.reads_math s.data.toList b t0)
  obtain ⟨xv, cv, rfl⟩ : ∃ x c, vs = .slice x len c := by
    rcases hv with ⟨h1, h2⟩ | ⟨a, c, h1, _⟩
    · exact ⟨none, 0, by rw [h1, h2]⟩
    · exact ⟨_, _, h1⟩
  have HV := hide hv
  clear hv
  go_enter Tryz.func9, Tryz.ntmps9
  go_wp2_with fail
  refine (query_any s b t0 _ hs).mono ?_
  rintro e w1 ⟨rfl, b1⟩
  generalize Pk.queryS s.data.toList b t0 = x at *
  obtain ⟨q, hq, ⟨hr, n, he⟩, ⟨hr2, n2, he2⟩, hln⟩ := HA.out
  have l1 : x.raw.length ≤ 300 := hln.1
  have l2 : x.plain.length ≤ 300 := hln.2
  rw [Pk.astPS_full (.inr rfl)] at he2
  have HQ := hide hq
  have HR := hide hr
  have HE := hide he
  have HR2 := hide hr2
  have HE2 := hide he2
  have B1 := hide b1
  clear b1 hq hr he hr2 he2 HA hln
  go_upto_region 2 with fail
  have D2 := hide (heap_alloc_new w1 (.cells #[.string ⟨x.raw.toArray⟩, .string ⟨x.plain.toArray⟩] 60))
  have B2 := hide (B1.out.alloc B1.out.size (.cells #[.string ⟨x.raw.toArray⟩, .string ⟨x.plain.toArray⟩] 60))
  have hs2 : w1.heap.size < (w1.alloc (.cells #[.string ⟨x.raw.toArray⟩, .string ⟨x.plain.toArray⟩] 60)).heap.size := by simp
  generalize w1.alloc (.cells #[.string ⟨x.raw.toArray⟩, .string ⟨x.plain.toArray⟩] 60) = w2 at *
  generalize w1.heap.size = bx at *
  have c0 : w2.cell? ⟨bx, 0, none⟩ = some (.string ⟨x.raw.toArray⟩) := cell_of_heap D2.out 0
  go_wp2_with fail
  refine (begin_any (s := ⟨x.raw.toArray⟩) (n := n) (by show x.raw.toArray.size ≤ maxLen; unfold maxLen; simp; omega) HQ.out HR.out HE.out w2).mono ?_
  rintro e w3 ⟨b3, g, vb, vk, vf, has, tp, fr, rfl, hg, hx⟩
  have B3 := hide (B2.out.trans (b3.mono B2.out.size))
  have hg' : w.heap.size ≤ g := Nat.le_trans B2.out.size hg
  have X3 := hide hx
  have hgl : g < w3.heap.size := (Array.getElem?_eq_some_iff.1 hx.blk).1
  have c1 : w3.cell? ⟨bx, 1, none⟩ = some (.string ⟨x.plain.toArray⟩) := (b3.cell (p := ⟨bx, 1, none⟩) hs2).trans (cell_of_heap D2.out 1)
  clear b3 hx c0 D2 hg
  go_wp2_with fail
  refine (begin_any (s := ⟨x.plain.toArray⟩) (n := n2) (by show x.plain.toArray.size ≤ maxLen; unfold maxLen; simp; omega) HQ.out HR2.out HE2.out w3).mono ?_
  rintro e w4 ⟨b4, g2, vb2, vk2, vf2, has2, tp2, fr2, rfl, hg2, hx2⟩
  have B4 := hide (B3.out.trans (b4.mono B3.out.size))
  have X4 := hide (X3.out.below b4)
  have Y4 := hide hx2
  have hgg : Hid (g2 ≠ g) := by show _ ≠ _; omega
  have hg2' : Hid (w.heap.size ≤ g2) := Nat.le_trans B3.out.size hg2
  clear b4 hx2 c1 X3 hg2
  go_upto_region 9 with fail
  have U4 := hide (UM2.start B4.out hg' X4.out hgg.out Y4.out rfl)
  generalize w4.alloc (.cells #[.slice none 0 0, .slice none 0 0, .int .i64 0] 66) = w5 at *
  generalize w4.heap.size = bc at *
  have U5 : Hid (UM2x w.heap.size w w5 bc g g2 (Pk.qryOf q) (Pk.qryOf q)) := ⟨_, _, _, U4.out⟩
  clear U4 X4 Y4 hg' hgl hs2
  generalize Pk.qryOf q = Q at *
  go_wp2
  go_loopw [14] (fun i wr => ∃ k : Nat, k ≤ len ∧ i = .int .i64 k ∧ Hid (UM2x w.heap.size w wr bc g g2 Q Q)) (fun i _ => len - (intOf i).toNat)
  case atStart => exact ⟨0, by omega, rfl, U5⟩
  case round =>
    obtain ⟨k, hk, rfl, HU⟩ := hrel
    by_cases hlt : k < len
    · have hlt' : (k : Int) < (len : Int) := by omega
      obtain ⟨cs, all, t, hu⟩ := HU.out
      have U1 := hide hu
      clear hu HU U5
      obtain ⟨a, cap, ea, hcell⟩ : ∃ a cap, Value.slice xv len cv = .slice (some a) len cap ∧ ∀ i, i < len → a.block < w.heap.size ∧ w.cell? (a.add i) = some (.string (S i)) ∧ (S i).size ≤ maxLen := by
        rcases HV.out with ⟨_, h2⟩ | h
        · omega
        · exact h
      cases ea
      obtain ⟨hal, hc1, hsz⟩ := hcell k hlt
      have d0 : wr.cell? (a.add k) = some (.string (S k)) := (U1.out.1.1.cell (p := a.add k) (by unfold Addr.add; split <;> exact hal)).trans hc1
      clear hcell hc1
      go_wp2_with fail
      refine (U1.out.batch hsz).mono ?_
      rintro e w6 ⟨x6, n6, c6, rfl, ub, rc, kp⟩
      have UB6 := hide ub
      have RC6 := hide rc
      clear ub rc kp d0 U1
      go_wp2_with fail
      refine (UB6.out.apply RC6.out).mono ?_
      rintro e w7 ⟨x7, n7, c7, rfl, um, _, _⟩
      have U7 := hide um
      clear um UB6 RC6
      go_wp2
      go_roundw
      case rel => exact ⟨k + 1, by omega, by go_num, _, _, _, U7.out⟩
      case measure => simp [intOf]; omega
    · have hlt' : ¬ (k : Int) < (len : Int) := by omega
      obtain ⟨cs, all, t, hu⟩ := HU.out
      have U1 := hide hu
      have HI := hide hu.1.2.2.2.2.1
      have HSM := hide hu.1.2.2.2.2.2.1
      obtain ⟨vr1, vn1, vb1, vk1, vf1, has1, tp1, fr1, vt1, hcm, hxv⟩ := hu.1.2.2.2.2.2.2
      obtain ⟨xr, cr, rfl⟩ := ownS hcm.rr
      obtain ⟨xn, cn, rfl⟩ := ownS hcm.rn
      have C1 := hide hcm
      have TI := hide hxv.inv
      have hcl := HI.out.len
      have z0 : wr.cell? ⟨bc, 0, none⟩ = some (.slice xr cs.length cr) := cell_of_heap hcm.blk 0
      clear hu HU U5 hcm hxv
      have hcl2 : (cs.length : Int) ≤ 84 := by omega
      generalize wr = wa at *
      go_wp2
      clear z0
      go_loopw [19, 20] (fun o i wz => ∃ i' : Int, i = .int .i64 i' ∧ -1 ≤ i' ∧ i' < cs.length ∧ (∃ x n c, o = .slice x n c) ∧ Hid (Below wa.heap.size wa wz) ∧ Hid (wz.ownsRow wa.heap.size 50 4 o (oneTo cs (i' + 1).toNat).length (rchgs (oneTo cs (i' + 1).toNat)))) (fun _ i _ => (intOf i + 1).toNat)
      case atStart => exact ⟨(cs.length : Int) - 1, by go_num, by omega, by omega, ⟨_, _, _, rfl⟩, Below.refl _ _, by rw [oneTo_end cs _ (by omega)]; exact World.ownsRow_nil _ _ _ _⟩
      case round =>
        obtain ⟨i', rfl, hi1, hi2, ⟨xo, no, co, rfl⟩, BZ, OZ⟩ := hrel
        by_cases hi0 : 0 ≤ i'
        · obtain ⟨j, rfl⟩ : ∃ j : Nat, i' = (j : Int) := ⟨i'.toNat, by omega⟩
          have hj : j < cs.length := by omega
          have hj1 : ((j : Int) + 1).toNat = j + 1 := by omega
          rw [hj1] at OZ
          have hj2 : Hid (((j : Int) - 1 + 1).toNat = j) := by show _ = _; omega
          have HST := hide (oneTo_step cs j hj)
          have hol := oneTo_len cs (j + 1)
          have CZ := hide (C1.out.below BZ.out)
          have hbz := BZ.out.size
          have t0 : wr.cell? ⟨bc, 0, none⟩ = some (.slice xr cs.length cr) := cell_of_heap CZ.out.blk 0
          have t1 : wr.cell? ⟨bc, 1, none⟩ = some (.slice xn cs.length cn) := cell_of_heap CZ.out.blk 1
          have hn1 := (RdG.ofOwn CZ.out.rn)
          obtain ⟨gn, on, cn', en, _⟩ := RdG.form1 hn1 (by omega)
          cases en
          have RR := hide (RdR.ofOwn (l := cs.map (·.1)) CZ.out.rr)
          obtain ⟨gr, or', cr', er, _⟩ := RdG.form1 RR.out (by simp; omega)
          rw [List.length_map] at er
          cases er
          have r3 : wr.cell? ⟨gn, on + j, none⟩ = some (.int .i64 cs[j].2) := RdG.cell hn1 _ _ (rints_get cs j hj)
          obtain ⟨r0, r1, r2⟩ := RR.out.cell j (by simpa using hj)
          simp only [List.getElem_map] at r0 r1 r2
          have hjl : (j : Int) < (cs.length : Int) := by omega
          clear hn1 hj1
          have EC : Hid (cs[j] = (cs[j].1, cs[j].2)) := rfl
          generalize hcj : cs[j] = cj at *
          have HCJ := hide hcj
          clear hcj
          obtain ⟨⟨p, u, q'⟩, m⟩ := cj
          simp only [] at *
          generalize oneTo cs (j + 1) = cur at *
          by_cases hm : 0 < m
          · rw [if_pos hm] at HST
            go_upto_region 21 with fail
            go_region_law (refine step_append_lies _ rfl (.tmp 93) (.tmp 109) 40 rfl wa.heap.size 50 i0 _ 4 32 Tryz.underlying40 hti hz0 hz1 hz2 rfl (by decide) _ cur.length (rchgs cur) rfl (OZ.out.alloc _).drew _ 1 1 (rchg ((p, u, q'), m)) rfl rfl (World.news_of_block (heap_alloc_new _ _)) (by intro u hu; simp [rchg] at hu; rcases hu with rfl | rfl | rfl | rfl <;> rfl) (by decide) (by unfold maxLen; omega) (by omega) (by simp; omega) _ rfl ?_; intro g6 cap6 w6 hown6 hgrow6 hat6 hlt6; have O6 := hide hown6; have B6 := hide ((below_dB (BZ.out.alloc hbz _)).grown hgrow6 (by simp; omega) (fun k hk => (OZ.out.lt k hk).1)); clear hown6 hgrow6 hat6 hlt6)
            all_goals
              go_wp2
              go_roundw
              case rel => exact ⟨(j : Int) - 1, by go_num, by omega, by omega, ⟨_, _, _, rfl⟩, B6, by rw [hj2.out, HST.out, rchgs_snoc, List.length_append]; exact O6⟩
              case measure => simp [intOf]
          · rw [if_neg hm, List.append_nil] at HST
            go_wp2
            go_roundw
            case rel => exact ⟨(j : Int) - 1, by go_num, by omega, by omega, ⟨_, _, _, rfl⟩, BZ, by rw [hj2.out, HST.out]; exact OZ⟩
            case measure => simp [intOf]
        · obtain rfl : i' = -1 := by omega
          have h0 : ((-1 : Int) + 1).toNat = 0 := by decide
          rw [h0, oneTo_all] at OZ
          clear h0
          have hlo := Pk.one_len HI.out
          have HOK := hide (Pk.one_ok HI.out)
          have HTB := hide (Pk.one_table TI.out HI.out HSM.out)
          have HOU := hide (Pk.one_outs (q := Q) TI.out HI.out HSM.out)
          have HSZ := hide (Pk.one_size TI.out HI.out HSM.out)
          have HTT : Hid (Pv.totalF t = all) := (Pk.total_eq HSM.out).trans HI.out.tot
          have UZ := hide (U1.out.below BZ.out)
          obtain rfl : no = (Pk.oneF cs).length := by
            rcases own_form OZ.out with ⟨h1, h2⟩ | ⟨g, c, h1⟩
            · cases h1; exact h2.symm
            · cases h1; rfl
          have RZ := hide (RdC.ofOwn OZ.out)
          clear OZ BZ U1 C1
          go_wp2_with fail
          refine (UZ.out.other hg2'.out RZ.out HOK.out.1 (by omega)).mono ?_
          rintro e w10 ⟨x10, n10, c10, rfl, um, ro, kp⟩
          rw [HTB.out] at um
          rw [HOU.out] at ro
          have UA := hide um
          have D10 := hide ro
          have R10 := hide (kp.c _ _ RZ.out)
          clear um ro kp UZ RZ
          obtain ⟨vr3, vn3, vb3, vk3, vf3, has3, tp3, fr3, vt3, hcm3, hxv3⟩ := UA.out.1.2.2.2.2.2.2
          obtain ⟨ub3, uk3, uf3, hasu, tpu, fru, ut3, hyv3⟩ := UA.out.2.2
          have X10 := hide hxv3
          have Y10 := hide hyv3
          have C10 := hide hcm3
          have B10 := hide UA.out.1.1
          have SMR := hide (rows_small hxv3.q hxv3.inv)
          clear hcm3 hxv3 hyv3 UA
          have SMB : Hid (∀ x ∈ Pv.rowsF Q t, x.2.1.length ≤ 1000 ∧ IntKind.i64.wrap (1 * x.2.2) = 1 * x.2.2) := fun x hx => by
            obtain ⟨h1, h2, h3⟩ := SMR.out.2 x hx
            exact ⟨h1, wrapOne h2 h3⟩
          go_wp2_with fail
          refine (xrows_rd X10.out).mono ?_
          rintro e w11 ⟨b11, x11, n11, c11, rfl, r11⟩
          have B11 := hide (B10.out.trans (b11.mono B10.out.size))
          have X11 := hide (X10.out.below b11)
          have Y11 := hide (Y10.out.below b11)
          have C11 := hide (C10.out.below b11)
          have D11 := hide (D10.out.below b11)
          have L11 := hide r11
          clear b11 r11 X10 Y10 C10 D10 R10
          go_wp2_with fail
          refine (xrows_rd Y11.out).mono ?_
          rintro e w12 ⟨b12, x12, n12, c12, rfl, r12⟩
          have B12 := hide (B11.out.trans (b12.mono B11.out.size))
          have X12 := hide (X11.out.below b12)
          have Y12 := hide (Y11.out.below b12)
          have C12 := hide (C11.out.below b12)
          have D12 := hide (D11.out.below b12)
          have L12 := hide (L11.out.below b12)
          have M12 := hide r12
          clear b12 r12 X11 Y11 C11 D11 L11
          have LT : Hid (RdO w12 (.slice x11 n11 c11) (timesO 1 (Pv.rowsF Q t))) := by rw [timesO_one]; exact L12
          have MT : Hid (RdO w12 (.slice x12 n12 c12) (timesO 1 (Pv.rowsF Q t))) := by rw [timesO_one]; exact M12
          go_wp2_with fail
          refine (ksameOuts_eq (sg := 1) LT.out M12.out (by have := SMR.out.1; omega) SMB.out).mono ?_
          rintro e w13 ⟨rfl, b13⟩
          have B13 := hide (B12.out.trans (b13.mono B12.out.size))
          have X13 := hide (X12.out.below b13)
          have Y13 := hide (Y12.out.below b13)
          have C13 := hide (C12.out.below b13)
          have D13 := hide (D12.out.below b13)
          have MT13 := hide (MT.out.below b13)
          clear b13 X12 Y12 C12 D12 L12 M12 LT MT
          go_wp2_with fail
          refine (ksameOuts_eq (sg := 1) MT13.out D13.out (by have := SMR.out.1; omega) SMB.out).mono ?_
          rintro e w14 ⟨rfl, b14⟩
          have B14 := hide (B13.out.trans (b14.mono B13.out.size))
          have X14 := hide (X13.out.below b14)
          have Y14 := hide (Y13.out.below b14)
          have C14 := hide (C13.out.below b14)
          clear b14 X13 Y13 C13 D13 MT13
          go_wp2_with fail
          refine (xtable_rd X14.out).mono ?_
          rintro e w15 ⟨b15, x15, n15, c15, rfl, r15⟩
          have B15 := hide (B14.out.trans (b15.mono B14.out.size))
          have Y15 := hide (Y14.out.below b15)
          have C15 := hide (C14.out.below b15)
          have T15 := hide r15
          clear b15 r15 X14 Y14 C14
          go_wp2_with fail
          refine (xtable_rd Y15.out).mono ?_
          rintro e w16 ⟨b16, x16, n16, c16, rfl, r16⟩
          have B16 := hide (B15.out.trans (b16.mono B15.out.size))
          have C16 := hide (C15.out.below b16)
          have T16 := hide (T15.out.below b16)
          have V16 := hide r16
          clear b16 r16 Y15 C15 T15
          go_wp2_with fail
          refine (ksameTables_eq T16.out V16.out (by have := TI.out.len; omega)).mono ?_
          rintro e w17 ⟨rfl, b17⟩
          have B17 := hide (B16.out.trans (b17.mono B16.out.size))
          have C17 := hide (C16.out.below b17)
          have T17 := hide (T16.out.below b17)
          clear b17 C16 T16 V16
          obtain rfl := T17.out.len
          go_wp2_with fail
          refine (copies_any T17.out (by have := TI.out.len; omega) (fun c hc => by have := TI.out.bd c hc; omega)).mono ?_
          rintro e w18 ⟨rfl, hw18⟩
          obtain rfl := hw18.symm
          rw [HTT.out]
          clear hw18
          have z2 : w17.cell? ⟨bc, 2, none⟩ = some (.int .i64 all) := cell_of_heap C17.out.blk 2
          have hq1 : ((t.length : Int) == ((Pk.oneF cs).length : Int)) = true := by rw [HSZ.out]; simp
          go_wp2
          go_ret
          exact ⟨by simp, B17.out⟩
end Go.Proofs.YtcoofnhdbejnpaaGreatDoor

