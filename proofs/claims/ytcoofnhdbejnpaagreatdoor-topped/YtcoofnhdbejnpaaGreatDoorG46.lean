/- Package paneskeep: Parted answers true. -/
import Derived.Test.YtcoofnhdbejnpaaGreatDoorG42
import Derived.Test.YtcoofnhdbejnpaaGreatDoorG45
import Derived.Test.YtcoofnhdbejnpaaGreatDoorRows
import Derived.ProofKit
import Derived.LaidMore
import Derived.OpenShut
import Derived.ShutString
import Derived.Stop.Joined
namespace Go.Proofs.YtcoofnhdbejnpaaGreatDoor
open Go.RowKit
theorem cat_by (l : List UInt8) : ((⟨#[98, 121, 32, 112, 32]⟩ : ByteArray) ++ ⟨l.toArray⟩).data.toList = [98, 121, 32, 112, 32] ++ l := by simp
theorem cat_bySize (l : List UInt8) (h : l.length ≤ 1000) : ((⟨#[98, 121, 32, 112, 32]⟩ : ByteArray) ++ ⟨l.toArray⟩).size ≤ maxLen := by
  rw [← size_of_list, cat_by]
  unfold maxLen
  rw [List.length_append]
  simp only [List.length_cons, List.length_nil]
  omega
set_option maxRecDepth 100000 in
set_option maxHeartbeats 2000000 in
theorem parted_walk (s s1 s2 : ByteArray) (t0 : Bool) (p0 : Int) (w : World) (hs : s.size ≤ maxLen) (hs1 : s1.size ≤ maxLen) (hs2 : s2.size ≤ maxLen) (hp1 : -9223372036854775808 ≤ p0) (hp2 : p0 ≤ 9223372036854775807) :
    Calls Tryz.prog 10 #[.string s, .bool t0, .string s1, .string s2, .int .i64 p0] w fun e w' => e = .returned (.bool true) ∧ Below w.heap.size w w' := by
  have HA := hide (Pk.reads_full s.data.toList false t0)
  go_enter Tryz.func10, Tryz.ntmps10
  go_wp2_with fail
  refine (query_any s false t0 _ hs).mono ?_
  rintro e w1 ⟨rfl, b1⟩
  generalize Pk.queryS s.data.toList false t0 = x at *
  obtain ⟨q, ⟨hq, _, ⟨hr2, n2, he2⟩, _⟩, hpl, hby, htn, _, hl280, _⟩ := HA.out
  replace hby : q.by' = [] := by simpa using hby
  obtain ⟨hr3, n3, he3⟩ := Pk.parted_read hq hby hpl hl280.2
  have l2 : x.plain.length ≤ 280 := hl280.2
  rw [Pk.astPS_full (.inr rfl)] at he2
  have HQ := hide hq
  have HBY := hide hby
  have HTN := hide htn
  have HR2 := hide hr2
  have HE2 := hide he2
  have HR3 := hide hr3
  have HE3 := hide he3
  have B1 := hide b1
  clear b1 hq hr2 he2 hr3 he3 hby htn hl280 hpl HA
  go_upto_region 2 with fail
  have D2 := hide (heap_alloc_new w1 (.cells #[.string ⟨x.raw.toArray⟩, .string ⟨x.plain.toArray⟩] 60))
  have B2 := hide (B1.out.alloc B1.out.size (.cells #[.string ⟨x.raw.toArray⟩, .string ⟨x.plain.toArray⟩] 60))
  have hs2' : w1.heap.size < (w1.alloc (.cells #[.string ⟨x.raw.toArray⟩, .string ⟨x.plain.toArray⟩] 60)).heap.size := by simp
  generalize w1.alloc (.cells #[.string ⟨x.raw.toArray⟩, .string ⟨x.plain.toArray⟩] 60) = w2 at *
  generalize w1.heap.size = bx at *
  have c0 : w2.cell? ⟨bx, 1, none⟩ = some (.string ⟨x.plain.toArray⟩) := cell_of_heap D2.out 1
  go_wp2_with fail
  generalize hsb : (⟨#[98, 121, 32, 112, 32]⟩ : ByteArray) ++ ⟨x.plain.toArray⟩ = sb at *
  have hb1 : sb.size ≤ maxLen := by rw [← hsb]; exact cat_bySize _ (by omega)
  have hb2 : Pq.readE sb.data.toList = 0 := by rw [← hsb, cat_by]; exact HR3.out
  have hb3 : Pq.endPS sb.data.toList = Pk.astPS (Pk.astP q) n3 true := by rw [← hsb, cat_by]; exact HE3.out
  clear hsb
  refine (begin_any (s := sb) (n := n3) hb1 (Pk.astP_good HQ.out) hb2 hb3 w2).mono ?_
  rintro e w3 ⟨b3, g, vb, vk, vf, has, tp, fr, rfl, hg, hx⟩
  have B3 := hide (B2.out.trans (b3.mono B2.out.size))
  have hg' : w.heap.size ≤ g := Nat.le_trans B2.out.size hg
  have X3 := hide hx
  have hgl : g < w3.heap.size := (Array.getElem?_eq_some_iff.1 hx.blk).1
  have c1 : w3.cell? ⟨bx, 1, none⟩ = some (.string ⟨x.plain.toArray⟩) := (b3.cell (p := ⟨bx, 1, none⟩) hs2').trans c0
  clear b3 hx c0 D2 hg
  go_wp2_with fail
  refine (begin_any (s := ⟨x.plain.toArray⟩) (n := n2) (by show x.plain.toArray.size ≤ maxLen; unfold maxLen; simp; omega) HQ.out HR2.out HE2.out w3).mono ?_
  rintro e w4 ⟨b4, g2, vb2, vk2, vf2, has2, tp2, fr2, rfl, hg2, hx2⟩
  have B4 := hide (B3.out.trans (b4.mono B3.out.size))
  have hgl4 : g < w4.heap.size := Nat.lt_of_lt_of_le hgl b4.size
  have X4 : Hid (XVx w4 g (Pk.byP (Pk.qryOf q)) []) := ⟨_, _, _, _, _, _, _, X3.out.below b4⟩
  have hgl5 : g2 < w4.heap.size := (Array.getElem?_eq_some_iff.1 hx2.blk).1
  have Y4 : Hid (XVx w4 g2 (Pk.qryOf q) []) := ⟨_, _, _, _, _, _, _, hx2⟩
  have hgg : Hid (g2 ≠ g) := by show _ ≠ _; omega
  have hg2' : w.heap.size ≤ g2 := Nat.le_trans B3.out.size hg2
  have HTQ : Hid (t0 = false → (Pk.qryOf q).top < 0) := fun e => Pk.qryOf_top (HTN.out e)
  have HCS : Hid ((Pk.qryOf q).cs = []) := HBY.out
  clear b4 hx2 c1 X3 hg2 hgl HTN HBY HQ HR2 HE2 HR3 HE3 B3 B2 B1
  generalize Pk.qryOf q = Q at *
  go_wp2_with fail
  refine (kpick_any p0 900 w4 hp1 hp2 (by omega) (by omega)).mono ?_
  rintro e w5 ⟨⟨p, hpa, hpb, rfl⟩, hw5⟩
  obtain rfl := hw5.symm
  clear hw5
  go_upto_region 10 with fail
  have C5 : Hid (CM (w4.alloc (.cells #[.slice none 0 0, .slice none 0 0, .int .i64 0] 66)) w4.heap.size w4.heap.size (.slice none 0 0) (.slice none 0 0) [] 0) := ⟨heap_alloc_new w4 _, World.ownsRow_nil _ _ _ _, World.ownsRow_nil _ _ _ _⟩
  have B5 := hide ((Below.refl w4.heap.size w4).alloc (Nat.le_refl _) (.cells #[.slice none 0 0, .slice none 0 0, .int .i64 0] 66))
  have hs5 : w4.heap.size < (w4.alloc (.cells #[.slice none 0 0, .slice none 0 0, .int .i64 0] 66)).heap.size := by simp
  generalize w4.alloc (.cells #[.slice none 0 0, .slice none 0 0, .int .i64 0] 66) = w5 at *
  generalize hbc : w4.heap.size = bc at *
  have HBC := hide hbc
  clear hbc
  go_wp2_with fail
  refine (batch_any C5.out Pk.CInv.nil (Nat.le_of_lt hs5) hs1).mono ?_
  rintro e w6 ⟨bu, x6, n6, c6, vr6, vn6, rfl, own, cm, _, _⟩
  obtain ⟨xm, cm', em⟩ := ownS own
  cases em
  have B6 : Hid (Below bc w4 w6) := But.near B5.out (Nat.le_of_eq HBC.out.symm) bu (C5.out.ge (Nat.le_refl _))
  have K6 := hide cm.blk
  have O6 := hide own
  have hs6 := bu.size
  have HMB := hide (Pk.all_bd s1.data.toList)
  have HML : Hid ((Pk.batchF s1.data.toList [] 0).l.length ≤ 8) := (Pk.batch_inv s1.data.toList Pk.CInv.nil).len
  have HMM : Hid (Pk.mineF s1.data.toList p = Pk.mapR (Pk.setP p) (Pk.batchF s1.data.toList [] 0).l) := rfl
  have HTT : Hid (Pk.theirsF s1.data.toList s2.data.toList p = Pk.mapR (Pk.addP p) (Pk.batchF s2.data.toList [] (Pk.batchF s1.data.toList [] 0).all).l) := rfl
  have HTI := hide (Pk.theirs_inv s1.data.toList s2.data.toList)
  have HP1 := hide (Pk.mine_ok s1.data.toList hpa hpb).1
  have HP2 := hide (Pk.theirs_ok s1.data.toList s2.data.toList hpa hpb)
  have HP3 := hide (Pk.parted_told s1.data.toList HCS.out hpa hpb)
  have HP4 := hide (Pk.parted_still s1.data.toList s2.data.toList HCS.out hpa hpb)
  have HP5 := hide (Pk.parted_left s1.data.toList s2.data.toList HCS.out hpa hpb)
  have HP6 : Hid (t0 = false → (Pk.batchF s1.data.toList [] 0).all ≠ 0 → Pv.rowsF Q (Pv.tableF [] (Pk.mineF s1.data.toList p)) ≠ []) := fun e h => Pk.parted_some s1.data.toList (HTQ.out e) hpa hpb h
  have HI1 := hide (Pk.mine_tab s1.data.toList hpa hpb)
  have HI2 := hide (Pk.theirs_tab s1.data.toList s2.data.toList hpa hpb)
  clear bu own cm C5 B5
  generalize Pk.theirsF s1.data.toList s2.data.toList p = Th at *
  generalize Pk.mineF s1.data.toList p = Mi at *
  generalize (Pk.batchF s1.data.toList [] 0).all = all at *
  generalize (Pk.batchF s1.data.toList [] 0).l = L at *
  have hml := HML.out
  have hab := HMB.out
  go_wp2
  go_loopw [17] (fun i wr => ∃ k : Nat, k ≤ L.length ∧ i = .int .i64 k ∧ Hid (Below bc w4 wr) ∧ Hid (wr.heap[bc]? = some (.cells #[vr6, vn6, .int .i64 all] 66 (0, 0))) ∧ Hid (wr.ownsRow w5.heap.size 50 4 (.slice x6 L.length c6) L.length (rchgs (mixF (Pk.setP p) L k)))) (fun i _ => L.length - (intOf i).toNat)
  case atStart => exact ⟨0, by omega, rfl, B6, K6, by rw [mixF_zero]; exact O6⟩
  case round =>
    obtain ⟨k, hk, rfl, BW, KW, OW⟩ := hrel
    by_cases hlt : k < L.length
    · have hlt' : (k : Int) < (L.length : Int) := by omega
      obtain ⟨gm, cm2, em⟩ : ∃ g c, Value.slice x6 L.length c6 = .slice (some ⟨g, 0, none⟩) L.length c := by
        rcases own_form OW.out with ⟨h1, h2⟩ | ⟨g, c, h1⟩
        · omega
        · exact ⟨g, c, h1⟩
      cases em
      have hga := (own_at OW.out (g := gm) rfl).1
      have hmx : k < (mixF (Pk.setP p) L k).length := by rw [mixF_len]; exact hlt
      obtain ⟨d0, _, _, _⟩ := (RdC.ofOwn OW.out).cell k hmx
      rw [Nat.zero_add] at d0
      have f0 := own_free4 OW.out (k * 4)
      have ON : Hid ((wr.setCell ⟨gm, k * 4, none⟩ (.int .i64 p)).ownsRow w5.heap.size 50 4 (.slice (some ⟨gm, 0, none⟩) L.length c6) L.length (rchgs (mixF (Pk.setP p) L (k + 1)))) := by
        have := own_setP OW.out k hmx p
        rw [mixF_get _ _ _ hlt] at this
        rw [← mixF_succ _ _ _ hlt]
        exact this
      have BN := hide (BW.out.setCell (p := ⟨gm, k * 4, none⟩) (by show bc ≤ gm; omega) (.int .i64 p))
      have KN : Hid ((wr.setCell ⟨gm, k * 4, none⟩ (.int .i64 p)).heap[bc]? = some (.cells #[vr6, vn6, .int .i64 all] 66 (0, 0))) := by
        show _ = _
        rw [set_far _ _ _ _ bc (by omega)]; exact KW.out
      go_wp2
      go_roundw
      case rel => exact ⟨k + 1, by omega, by go_num, BN, KN, ON⟩
      case measure => simp [intOf]; omega
    · have hlt' : ¬ (k : Int) < (L.length : Int) := by omega
      rw [mixF_all _ _ (by omega), ← HMM.out] at OW
      have hmi : Hid (Mi.length = L.length) := by show _ = _; rw [HMM.out]; simp [Pk.mapR]
      generalize wr = wa at *
      have RM := hide (RdC.ofOwn OW.out)
      have z0 : wa.cell? ⟨bc, 2, none⟩ = some (.int .i64 all) := cell_of_heap KW.out 2
      clear OW O6 K6 B6
      go_upto_region 16 with fail
      have C7 : Hid (CM (wa.alloc (.cells #[.slice none 0 0, .slice none 0 0, .int .i64 all] 66)) wa.heap.size wa.heap.size (.slice none 0 0) (.slice none 0 0) [] all) := ⟨heap_alloc_new wa _, World.ownsRow_nil _ _ _ _, World.ownsRow_nil _ _ _ _⟩
      have B7 := hide ((Below.refl wa.heap.size wa).alloc (Nat.le_refl _) (.cells #[.slice none 0 0, .slice none 0 0, .int .i64 all] 66))
      have hs7 : wa.heap.size < (wa.alloc (.cells #[.slice none 0 0, .slice none 0 0, .int .i64 all] 66)).heap.size := by simp
      generalize wa.alloc (.cells #[.slice none 0 0, .slice none 0 0, .int .i64 all] 66) = w7 at *
      generalize hbd : wa.heap.size = bd at *
      have HBD := hide hbd
      clear hbd z0
      go_wp2_with fail
      refine (dbatch_any C7.out (Pk.DInv.nil hab.1 hab.2) (Nat.le_of_lt hs7) hs2).mono ?_
      rintro e w8 ⟨bu, x8, n8, c8, vr8, vn8, rfl, own, cm, _, _⟩
      obtain ⟨xt, ct', et⟩ := ownS own
      cases et
      have B8 : Hid (Below bd wa w8) := But.near B7.out (Nat.le_of_eq HBD.out.symm) bu (C7.out.ge (Nat.le_refl _))
      have O8 := hide own
      have HTL : Hid ((Pk.batchF s2.data.toList [] all).l.length ≤ 8) := HTI.out.len
      have HTR : Hid (∀ c ∈ (Pk.batchF s2.data.toList [] all).l, 0 ≤ c.1.1 ∧ c.1.1 ≤ 2) := fun c hc => Pk.allRows_p _ (HTI.out.chg c hc).2
      clear bu own cm C7 B7 HTI
      generalize (Pk.batchF s2.data.toList [] all).l = T at *
      have htl := HTL.out
      go_wp2
      go_loopw [20] (fun i wr => ∃ k : Nat, k ≤ T.length ∧ i = .int .i64 k ∧ Hid (Below bd wa wr) ∧ Hid (wr.ownsRow w7.heap.size 50 4 (.slice x8 T.length c8) T.length (rchgs (mixF (Pk.addP p) T k)))) (fun i _ => T.length - (intOf i).toNat)
      case atStart => exact ⟨0, by omega, rfl, B8, by rw [mixF_zero]; exact O8⟩
      case round =>
        obtain ⟨k, hk, rfl, BW2, OW2⟩ := hrel
        by_cases hlt : k < T.length
        · have hlt' : (k : Int) < (T.length : Int) := by omega
          obtain ⟨gt, ct2, et⟩ : ∃ g c, Value.slice x8 T.length c8 = .slice (some ⟨g, 0, none⟩) T.length c := by
            rcases own_form OW2.out with ⟨h1, h2⟩ | ⟨g, c, h1⟩
            · omega
            · exact ⟨g, c, h1⟩
          cases et
          have hga := (own_at OW2.out (g := gt) rfl).1
          have hmx : k < (mixF (Pk.addP p) T k).length := by rw [mixF_len]; exact hlt
          obtain ⟨d0, _, _, _⟩ := (RdC.ofOwn OW2.out).cell k hmx
          rw [Nat.zero_add, mixF_get _ _ _ hlt] at d0
          have f0 := own_free4 OW2.out (k * 4)
          obtain ⟨r1, r2⟩ := HTR.out T[k] (List.getElem_mem hlt)
          have ON : Hid ((wr.setCell ⟨gt, k * 4, none⟩ (.int .i64 (p + 1 + T[k].1.1))).ownsRow w7.heap.size 50 4 (.slice (some ⟨gt, 0, none⟩) T.length c8) T.length (rchgs (mixF (Pk.addP p) T (k + 1)))) := by
            have := own_setP OW2.out k hmx (p + 1 + T[k].1.1)
            rw [mixF_get _ _ _ hlt] at this
            rw [← mixF_succ _ _ _ hlt]
            exact this
          have BN := hide (BW2.out.setCell (p := ⟨gt, k * 4, none⟩) (by show bd ≤ gt; omega) (.int .i64 (p + 1 + T[k].1.1)))
          generalize T[k].1.1 = y at *
          go_wp2
          go_roundw
          case rel => exact ⟨k + 1, by omega, by go_num, BN, ON⟩
          case measure => simp [intOf]; omega
        · have hlt' : ¬ (k : Int) < (T.length : Int) := by omega
          rw [mixF_all _ _ (by omega), ← HTT.out] at OW2
          have hth : Hid (Th.length = T.length) := by show _ = _; rw [HTT.out]; simp [Pk.mapR]
          generalize wr = wb at *
          have b9 : Hid (Below wa.heap.size wa wb) := by rw [HBD.out]; exact BW2.out
          have R9 := hide (RM.out.below b9.out)
          have T9 := hide (RdC.ofOwn OW2.out)
          have hbcl : bc < wa.heap.size := (Array.getElem?_eq_some_iff.1 KW.out).1
          have K9 : Hid (wb.heap[bc]? = some (.cells #[vr6, vn6, .int .i64 all] 66 (0, 0))) := (b9.out.block bc hbcl).trans KW.out
          have b10 : Hid (Below w4.heap.size w4 wb) := by rw [HBC.out]; exact BW.out.trans (b9.out.mono (by omega))
          have X9 := hide (X4.out.below b10.out)
          have Y9 := hide (Y4.out.below b10.out)
          have B9 := hide (B4.out.trans (b10.out.mono B4.out.size))
          have hbl9 : bc < wb.heap.size := Nat.lt_of_lt_of_le hbcl b9.out.size
          have hbg : bc ≠ g := by omega
          have hbg2 : bc ≠ g2 := by omega
          clear OW2 O8 B8 BW BW2 KW RM X4 Y4 b9 b10 B4
          go_wp2_with fail
          refine (xapply_x X9.out R9.out HP1.out (by have := hmi.out; omega)).mono ?_
          rintro e w10 ⟨xa, na, ca, rfl, bu, xv, ro, kp⟩
          rw [HP3.out] at ro
          have B10 := hide (But.near B9.out (Nat.le_refl _) bu (fun k hk e => by omega))
          have Y10 := hide (Y9.out.butx X9.out bu hgg.out)
          have X10 := hide xv
          have A10 := hide ro
          have R10 := hide (kp.c _ _ R9.out)
          have T10 := hide (kp.c _ _ T9.out)
          have K10 : Hid (w10.heap[bc]? = some (.cells #[vr6, vn6, .int .i64 all] 66 (0, 0))) := (bu.block bc hbl9 hbg).trans K9.out
          have hbl10 : bc < w10.heap.size := Nat.lt_of_lt_of_le hbl9 bu.size
          clear bu xv ro kp X9 Y9 R9 T9 B9 K9
          go_wp2_with fail
          refine (xapply_x Y10.out R10.out HP1.out (by have := hmi.out; omega)).mono ?_
          rintro e w11 ⟨xb, nb, cb, rfl, bu, xv, ro, kp⟩
          have B11 := hide (But.near B10.out (Nat.le_refl _) bu (fun k hk e => by omega))
          have X11 := hide (X10.out.butx Y10.out bu (Ne.symm hgg.out))
          have Y11 := hide xv
          have D11 := hide ro
          have A11 := hide (kp.o _ _ A10.out)
          have T11 := hide (kp.c _ _ T10.out)
          have K11 : Hid (w11.heap[bc]? = some (.cells #[vr6, vn6, .int .i64 all] 66 (0, 0))) := (bu.block bc hbl10 hbg2).trans K10.out
          have hbl11 : bc < w11.heap.size := Nat.lt_of_lt_of_le hbl10 bu.size
          clear bu xv ro kp X10 Y10 R10 T10 B10 K10 A10
          go_wp2_with fail
          refine (xapply_x X11.out T11.out HP2.out (by have := hth.out; omega)).mono ?_
          rintro e w12 ⟨xc, nc, cc, rfl, bu, xv, ro, kp⟩
          have B12 := hide (But.near B11.out (Nat.le_refl _) bu (fun k hk e => by omega))
          have Y12 := hide (Y11.out.butx X11.out bu hgg.out)
          have X12 := hide xv
          have E12 := hide ro
          have A12 := hide (kp.o _ _ A11.out)
          have D12 := hide (kp.o _ _ D11.out)
          have K12 : Hid (w12.heap[bc]? = some (.cells #[vr6, vn6, .int .i64 all] 66 (0, 0))) := (bu.block bc hbl11 hbg).trans K11.out
          have hbl12 : bc < w12.heap.size := Nat.lt_of_lt_of_le hbl11 bu.size
          have SM1 := hide (Y11.out.small.1 HI1.out)
          have SM2 := hide (Y11.out.small.2 Pv.TInv.nil (show (Pv.refusedF [] Mi).1 = 0 by rw [HP1.out]))
          have SM3 := hide (X12.out.small.2 HI1.out (show (Pv.refusedF (Pv.tableF [] Mi) Th).1 = 0 by rw [HP2.out]))
          have SM4 := hide (X12.out.small.1 HI2.out)
          clear bu xv ro kp X11 Y11 T11 B11 K11 A11 D11
          go_wp2_with fail
          refine (X12.out.rows).mono ?_
          rintro e w13 ⟨bl, xl, nl, cl, rfl, rl⟩
          have B13 := hide (B12.out.trans (bl.mono B12.out.size))
          have Y13 := hide (Y12.out.below bl)
          have A13 := hide (A12.out.below bl)
          have D13 := hide (D12.out.below bl)
          have E13 := hide (E12.out.below bl)
          have K13 : Hid (w13.heap[bc]? = some (.cells #[vr6, vn6, .int .i64 all] 66 (0, 0))) := (bl.block bc hbl12).trans K12.out
          have hbl13 : bc < w13.heap.size := Nat.lt_of_lt_of_le hbl12 bl.size
          have L13 := hide rl
          clear bl rl X12 Y12 B12 K12 A12 D12 E12
          go_wp2_with fail
          refine (Y13.out.rows).mono ?_
          rintro e w14 ⟨bl, xm2, nm2, cm2, rfl, rl⟩
          have B14 := hide (B13.out.trans (bl.mono B13.out.size))
          have A14 := hide (A13.out.below bl)
          have D14 := hide (D13.out.below bl)
          have E14 := hide (E13.out.below bl)
          have L14 := hide (L13.out.below bl)
          have K14 : Hid (w14.heap[bc]? = some (.cells #[vr6, vn6, .int .i64 all] 66 (0, 0))) := (bl.block bc hbl13).trans K13.out
          have hbl14 : bc < w14.heap.size := Nat.lt_of_lt_of_le hbl13 bl.size
          have M14 := hide rl
          clear bl rl Y13 B13 K13 A13 D13 E13 L13
          have SMA : Hid (∀ x ∈ Pv.appliedF Q [] Mi, x.2.1.length ≤ 1000 ∧ IntKind.i64.wrap (1 * x.2.2) = 1 * x.2.2) := fun x hx => by
            obtain ⟨h1, h2, h3⟩ := SM2.out.2 x hx
            exact ⟨h1, wrapOne h2 h3⟩
          have SMB : Hid (∀ x ∈ Pv.rowsF Q (Pv.tableF [] Mi), x.2.1.length ≤ 1000 ∧ IntKind.i64.wrap (1 * x.2.2) = 1 * x.2.2) := fun x hx => by
            obtain ⟨h1, h2, h3⟩ := SM1.out.2 x hx
            exact ⟨h1, wrapOne h2 h3⟩
          have AT : Hid (RdO w14 (.slice xa na ca) (timesO 1 (Pv.appliedF Q [] Mi))) := by rw [timesO_one]; exact A14
          go_wp2_with fail
          refine (ksameOuts_eq (sg := 1) AT.out D14.out (by have := SM2.out.1; omega) SMA.out).mono ?_
          rintro e w15 ⟨rfl, bl⟩
          have B15 := hide (B14.out.trans (bl.mono B14.out.size))
          have E15 := hide (E14.out.below bl)
          have L15 := hide (L14.out.below bl)
          have M15 := hide (M14.out.below bl)
          have K15 : Hid (w15.heap[bc]? = some (.cells #[vr6, vn6, .int .i64 all] 66 (0, 0))) := (bl.block bc hbl14).trans K14.out
          have hbl15 : bc < w15.heap.size := Nat.lt_of_lt_of_le hbl14 bl.size
          clear bl A14 AT D14 E14 L14 M14 B14 K14
          go_wp2_with fail
          refine (only_any E15.out (by have := SM3.out.1; omega) p).mono ?_
          rintro e w16 ⟨bl, xo, co, rfl, _⟩
          rw [HP4.out]
          have B16 := hide (B15.out.trans (bl.mono B15.out.size))
          have L16 := hide (L15.out.below bl)
          have M16 := hide (M15.out.below bl)
          have K16 : Hid (w16.heap[bc]? = some (.cells #[vr6, vn6, .int .i64 all] 66 (0, 0))) := (bl.block bc hbl15).trans K15.out
          have hbl16 : bc < w16.heap.size := Nat.lt_of_lt_of_le hbl15 bl.size
          clear bl E15 L15 M15 B15 K15
          go_wp2_with fail
          refine (only_any L16.out (by have := SM4.out.1; omega) p).mono ?_
          rintro e w17 ⟨bl, xq, cq, rfl, ro⟩
          rw [HP5.out] at ro
          have LT : Hid (RdO w17 (.slice xq (Pk.onlyF (Pv.rowsF (Pk.byP Q) (Pv.tableF (Pv.tableF [] Mi) Th)) p).length cq) (timesO 1 (Pv.rowsF Q (Pv.tableF [] Mi)))) := by rw [timesO_one, HP5.out]; exact ro
          have B17 := hide (B16.out.trans (bl.mono B16.out.size))
          have M17 := hide (M16.out.below bl)
          have K17 : Hid (w17.heap[bc]? = some (.cells #[vr6, vn6, .int .i64 all] 66 (0, 0))) := (bl.block bc hbl16).trans K16.out
          have hbl17 : bc < w17.heap.size := Nat.lt_of_lt_of_le hbl16 bl.size
          clear bl ro L16 M16 B16 K16
          go_wp2_with fail
          refine (ksameOuts_eq (sg := 1) LT.out M17.out (by have := SM1.out.1; omega) SMB.out).mono ?_
          rintro e w18 ⟨rfl, bl⟩
          have B18 := hide (B17.out.trans (bl.mono B17.out.size))
          have M18 := hide (M17.out.below bl)
          have K18 : Hid (w18.heap[bc]? = some (.cells #[vr6, vn6, .int .i64 all] 66 (0, 0))) := (bl.block bc hbl17).trans K17.out
          clear bl LT M17 B17 K17
          have z2 : w18.cell? ⟨bc, 2, none⟩ = some (.int .i64 all) := cell_of_heap K18.out 2
          obtain ⟨xz, cz, ez⟩ := M18.out.sl
          cases ez
          cases t0
          · by_cases ha : all = 0
            · subst ha
              go_wp2
              go_ret
              exact ⟨by simp, B18.out⟩
            · have hne := HP6.out rfl ha
              have hpos : 0 < (Pv.rowsF Q (Pv.tableF [] Mi)).length := List.length_pos_iff.2 hne
              have hpos' : (0 : Int) < ((Pv.rowsF Q (Pv.tableF [] Mi)).length : Int) := by omega
              have ha' : (all == 0) = false := by simp [ha]
              go_wp2
              go_ret
              exact ⟨by simp, B18.out⟩
          · go_wp2
            go_ret
            exact ⟨by simp, B18.out⟩
end Go.Proofs.YtcoofnhdbejnpaaGreatDoor

/-
  For all texts of raw bytes, both choices of top and every number p: paneskeep.Parted returns true, and its arguments read afterwards as before. Conditions: the three tables of math/bits and internal/strconv that the road names start as the text of the program lays them (the card ties them).
-/
namespace Go.Proofs.YtcoofnhdbejnpaaGreatDoor
open Go.ChangeShapes Go.WideShapes Go.ChangeAt Go.RowKit
open Go.ChangeMaps (open_string shut_string)
theorem int_bd {n : Int} (h : (Lit.int .i64 n).wf = true) : -9223372036854775808 ≤ n ∧ n ≤ 9223372036854775807 := by
  have h1 : IntKind.i64.min = -9223372036854775808 := by decide
  have h2 : IntKind.i64.max = 9223372036854775807 := by decide
  simp only [Lit.wf, Bool.and_eq_true, decide_eq_true_eq, h1, h2] at h
  exact h
theorem parted_door (os : Os) (args : Array Value) : laidMetH Tryz.prog Rows.partedRow.laid ((World.doorLaid Tryz.prog 100 os).forCall (fun _ _ => 0) ⟨#[], args, []⟩).memory :=
  laidMetH_of_parts3 (fuel := 8) (laidMet_of_run' 8 (by kernel_rfl) (by kernel_rfl)) (by kernel_rfl) (by kernel_rfl)
set_option maxRecDepth 100000 in
set_option maxHeartbeats 1000000 in
theorem parted_lifted (os : Os) (started : os.Started) (H : Type) (enc : TypeId × Value → H) :
    ReturnsInHanded {} Tryz.checked os 10 .any (fun w args => (Rows.partedSpec.pre enc Tryz.prog Tryz.f10 [] false w args ∧ laidMetH Tryz.prog Rows.partedRow.laid w) ∧ sizedMet enc Tryz.prog Tryz.f10 (OpenSpec.ofChange Rows.partedSpec) false w args)
      (Rows.partedSpec.post enc Tryz.prog Tryz.f10 false true false false) := by
  refine returnsInHanded_of_change_and (C := Tryz.checked) (X := fun w _ => laidMetH Tryz.prog Rows.partedRow.laid w) (fun _ _ _ hh h => h.of_heap hh) kown started (by kernel_rfl) Tryz.func10
    (ChangeSpec.witness_shaped (enc := enc) (C := Tryz.checked) (os := os) (X := fun w _ => laidMetH Tryz.prog Rows.partedRow.laid w) false (World.doorLaid Tryz.prog 100 os) #[.string ByteArray.empty, .bool false, .string ByteArray.empty, .string ByteArray.empty, .int .i64 0] 8 rfl (World.shaped_of_RefB (by kernel_rfl) (by kernel_rfl)) (by kernel_rfl) (by kernel_rfl) (by kernel_rfl) (parted_door os _)) ?_
  intro W base args ds gs before hval0 hW _ _ _ _
  have hval : ∀ (j : Nat) t v, Tryz.f10.params[j]? = some t → args[j]? = some v → Value.okWide Tryz.prog W .any base t v := hval0
  have hW' := hW
  obtain ⟨p, q, hA0, hV, rfl, hfz, hnd⟩ := hW
  have hA : DataW.TrodAll enc Tryz.prog W 0 (fun _ => true) true Tryz.f10.params.toList args.toList ds p := hA0
  rw [Tryz.params10] at hA hval
  obtain ⟨v0, vs0, d0, ds0, p0, q0, hargs, rfl, rfl, h0, r0⟩ := trodAll_cons hA
  obtain ⟨v1, vs1, d1, ds1, p1, q1, rfl, rfl, rfl, h1, r1⟩ := trodAll_cons r0
  obtain ⟨v2, vs2, d2, ds2, p2, q2, rfl, rfl, rfl, h2, r2⟩ := trodAll_cons r1
  obtain ⟨v3, vs3, d3, ds3, p3, q3, rfl, rfl, rfl, h3, r3⟩ := trodAll_cons r2
  obtain ⟨v4, vs4, d4, ds4, p4, q4, rfl, rfl, rfl, h4, r4⟩ := trodAll_cons r3
  obtain ⟨rfl, rfl, rfl⟩ := trodAll_nil r4
  obtain rfl : args = #[v0, v1, v2, v3, v4] := by cases args; simp_all
  obtain ⟨rfl, rfl⟩ := trodVars_none hV
  obtain ⟨a0, rfl, rfl, rfl, w0⟩ := open_string Tryz.underlying9 (hval 0 9 v0 rfl rfl) h0
  obtain ⟨a1, rfl, rfl, rfl⟩ := open_bool Tryz.underlying4 (hval 1 4 v1 rfl rfl) h1
  obtain ⟨a2, rfl, rfl, rfl, w2⟩ := open_string Tryz.underlying9 (hval 2 9 v2 rfl rfl) h2
  obtain ⟨a3, rfl, rfl, rfl, w3⟩ := open_string Tryz.underlying9 (hval 3 9 v3 rfl rfl) h3
  obtain ⟨a4, rfl, rfl, rfl, w4⟩ := open_int Tryz.underlying3 (hval 4 3 v4 rfl rfl) h4
  clear hA0 hval0
  simp only [List.append_nil] at hW'
  have hb4 := int_bd w4
  refine (parted_walk a0 a2 a3 a1 a4 W w0 w2 w3 hb4.1 hb4.2).mono fun e W' ⟨he, hb⟩ => ?_
  subst he
  exact ⟨_, rfl, _, _, _, [], [], [], hW', trodAll_cons_mk (shut_bool Tryz.underlying4 _) trodAll_mk0, trodAll_cons_mk (shut_string Tryz.underlying9 w0) (trodAll_cons_mk (shut_bool Tryz.underlying4 _) (trodAll_cons_mk (shut_string Tryz.underlying9 w2) (trodAll_cons_mk (shut_string Tryz.underlying9 w3) (trodAll_cons_mk (shut_int Tryz.underlying3 w4) trodAll_mk0)))), rfl, hb.frame _, fun h => by cases h⟩
theorem parted_holds : Rows.PartedSaid :=
  OpenClaim.holds_of_wide 10 Tryz.f10 rfl rfl rfl rfl rfl rfl rfl ⟨rfl, rfl, rfl, rfl, rfl⟩ rfl rfl rfl rfl rfl (by kernel_rfl) Tryz.func10 (by kernel_rfl)
    (of_decide_eq_true (by kernel_rfl)) (by unfold Func.isWrapper; first | (rw [if_pos (by decide +kernel)]; kernel_rfl) | (rw [if_neg (by decide +kernel)]; exact ⟨rfl, rfl⟩))
    (fun os started H enc _ => parted_lifted os started H enc)
end Go.Proofs.YtcoofnhdbejnpaaGreatDoor

