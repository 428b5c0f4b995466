/- Package paneskeep: Undone answers true. -/
import Derived.Test.YtcoofnhdbejnpaaGreatDoorG47
import Derived.Test.YtcoofnhdbejnpaaGreatDoorG51
import Derived.Test.YtcoofnhdbejnpaaGreatDoorRows
import Derived.ProofKit
import Derived.LaidMore
import Derived.OpenShut
import Derived.ShutString
import Derived.Stop.Joined
import Derived.Deep.Slices
import Derived.WideKeyArgs
import Derived.Test.YtcoofnhdbejnpaaGreatDoorCards
import Derived.Test.YtcoofnhdbejnpaaGreatDoorTie
import Derived.SevenTiedAt
namespace Go.Proofs.YtcoofnhdbejnpaaGreatDoor
open Go.RowKit
def UMx (N : Nat) (w wr : World) (bc gx : Nat) (Q : Pv.Qry) : Prop := ∃ cs all t, UM N w wr bc gx Q cs all t
theorem UM.start {w w1 w2 : World} {gx : Nat} {vb vk vf : Value} {has : Bool} {tp fr : Int} {Q : Pv.Qry} (hb : Below w.heap.size w w1) (hg : w.heap.size ≤ gx) (hx : XV w1 gx vb vk vf has tp fr (.slice none 0 0) Q []) (hw : w2 = w1.alloc (.cells #[.slice none 0 0, .slice none 0 0, .int .i64 0] 66)) : UM w.heap.size w w2 w1.heap.size gx Q [] 0 [] := by
  subst hw
  have hb2 := (Below.refl w1.heap.size w1).alloc (Nat.le_refl _) (.cells #[.slice none 0 0, .slice none 0 0, .int .i64 0] 66)
  exact ⟨hb.alloc hb.size _, hb.size, hg, Nat.le_refl _, Pk.CInv.nil, fun r => rfl, .slice none 0 0, .slice none 0 0, vb, vk, vf, has, tp, fr, .slice none 0 0, ⟨heap_alloc_new w1 _, World.ownsRow_nil _ _ _ _, World.ownsRow_nil _ _ _ _⟩, hx.below hb2⟩
theorem batch_bd (l : Pq.Bytes) {cs : List Pv.Chg} {all : Int} (h : Pk.CInv cs all) : (Pk.batchF l cs all).l.length ≤ 8 ∧ (∀ c ∈ (Pk.batchF l cs all).l, -1000000 ≤ c.2 ∧ c.2 ≤ 1000000) ∧ ∀ c ∈ (Pk.batchF l cs all).l, Pv.rowOk c.1 = true ∧ Pv.cntOk c.2 = true := by
  have hb := Pk.batch_inv l h
  refine ⟨hb.len, fun c hc => ?_, hb.chg⟩
  have := (hb.chg c hc).2
  rw [Pv.cnt_iff] at this
  omega
theorem wrapNeg {n : Int} (h1 : -320000 ≤ n) (h2 : n ≤ 320000) : IntKind.i64.wrap (-1 * n) = -1 * n := wrap_id2 (by omega) (by omega)
theorem wrapOne {n : Int} (h1 : -320000 ≤ n) (h2 : n ≤ 320000) : IntKind.i64.wrap (1 * n) = 1 * n := wrap_id2 (by omega) (by omega)
set_option maxRecDepth 100000 in
set_option maxHeartbeats 8000000 in
theorem undone_walk (s s2 : ByteArray) (b t0 : Bool) (vs : Value) (len : Nat) (S : Nat → ByteArray) (w : World) (hs : s.size ≤ maxLen) (hs2 : s2.size ≤ maxLen) (hl : len ≤ 1000000000000000)
    (hv : (vs = .slice none 0 0 ∧ len = 0) ∨ ∃ a cap, vs = .slice (some a) len cap ∧ ∀ i, i < len → a.block < w.heap.size ∧ w.cell? (a.add i) = some (.string (S i)) ∧ (S i).size ≤ maxLen) :
    Calls Tryz.prog 8 #[.string s, .bool b, .bool t0, vs, .string s2] w fun e w' => e = .returned (.bool true) ∧ Below w.heap.size w w' := by
  have HA := hide (Pk.raw_ast s.data.toList b t0)
  have HL := hide (Pk.plain_math s.data.toList b t0).2.2.1
  obtain ⟨xv, cv, rfl⟩ : ∃ x c, vs = .slice x len c := by
    rcases hv with ⟨h1, h2⟩ | ⟨a, c, h1, _⟩
    · exact ⟨none, 0, by rw [h1, h2]⟩
    · exact ⟨_, _, h1⟩
  have HV := hide hv
  clear hv
  go_enter Tryz.func8, Tryz.ntmps8
  go_wp2_with fail
  refine (query_any s b t0 _ hs).mono ?_
  rintro e w1 ⟨rfl, b1⟩
  generalize Pk.queryS s.data.toList b t0 = x at *
  have l1 : x.raw.length ≤ 300 := HL.out
  have B1 := hide b1
  clear b1
  go_upto_region 2 with fail
  have D2 := hide (heap_alloc_new w1 (.cells #[.string ⟨x.raw.toArray⟩, .string ⟨x.plain.toArray⟩] 60))
  have B2 := hide (B1.out.alloc B1.out.size (.cells #[.string ⟨x.raw.toArray⟩, .string ⟨x.plain.toArray⟩] 60))
  generalize w1.alloc (.cells #[.string ⟨x.raw.toArray⟩, .string ⟨x.plain.toArray⟩] 60) = w2 at *
  generalize w1.heap.size = bx at *
  have c0 : w2.cell? ⟨bx, 0, none⟩ = some (.string ⟨x.raw.toArray⟩) := cell_of_heap D2.out 0
  obtain ⟨q, hq, hr, n, he⟩ := HA.out
  have HQ := hide hq
  have HR := hide hr
  have HE := hide he
  clear hq hr he HA
  go_wp2_with fail
  refine (begin_any (s := ⟨x.raw.toArray⟩) (n := n) (by show x.raw.toArray.size ≤ maxLen; unfold maxLen; simp; omega) HQ.out HR.out HE.out w2).mono ?_
  rintro e w3 ⟨b3, g, vb, vk, vf, has, tp, fr, rfl, hg, hx⟩
  have B3 := hide (B2.out.trans (b3.mono B2.out.size))
  have hg' : w.heap.size ≤ g := Nat.le_trans B2.out.size hg
  have X3 := hide hx
  clear b3 hx c0 D2 hg
  go_upto_region 6 with fail
  have U4 := hide (UM.start B3.out hg' X3.out rfl)
  generalize w3.alloc (.cells #[.slice none 0 0, .slice none 0 0, .int .i64 0] 66) = w4 at *
  generalize w3.heap.size = bc at *
  have U5 : Hid (UMx w.heap.size w w4 bc g (Pk.qryOf q)) := ⟨_, _, _, U4.out⟩
  clear U4 X3 hg'
  generalize Pk.qryOf q = Q at *
  go_wp2
  go_loopw [15] (fun i wr => ∃ k : Nat, k ≤ len ∧ i = .int .i64 k ∧ Hid (UMx w.heap.size w wr bc g Q)) (fun i _ => len - (intOf i).toNat)
  case atStart => exact ⟨0, by omega, rfl, U5⟩
  case round =>
    obtain ⟨k, hk, rfl, HU⟩ := hrel
    by_cases hlt : k < len
    · have hlt' : (k : Int) < (len : Int) := by omega
      obtain ⟨cs, all, t, hu⟩ := HU.out
      have U1 := hide hu
      clear hu HU U5
      obtain ⟨a, cap, ea, hcell⟩ : ∃ a cap, Value.slice xv len cv = .slice (some a) len cap ∧ ∀ i, i < len → a.block < w.heap.size ∧ w.cell? (a.add i) = some (.string (S i)) ∧ (S i).size ≤ maxLen := by
        rcases HV.out with ⟨_, h2⟩ | h
        · omega
        · exact h
      cases ea
      obtain ⟨hal, hc1, hsz⟩ := hcell k hlt
      have d0 : wr.cell? (a.add k) = some (.string (S k)) := (U1.out.1.cell (p := a.add k) (by unfold Addr.add; split <;> exact hal)).trans hc1
      clear hcell hc1
      go_wp2_with fail
      refine (U1.out.batch hsz).mono ?_
      rintro e w6 ⟨x6, n6, c6, rfl, ub, rc, kp⟩
      have UB6 := hide ub
      have RC6 := hide rc
      clear ub rc kp d0 U1
      go_wp2_with fail
      refine (UB6.out.apply RC6.out).mono ?_
      rintro e w7 ⟨x7, n7, c7, rfl, um, _, _⟩
      have U7 := hide um
      clear um UB6 RC6
      go_wp2
      go_roundw
      case rel => exact ⟨k + 1, by omega, by go_num, _, _, _, U7.out⟩
      case measure => simp [intOf]; omega
    · have hlt' : ¬ (k : Int) < (len : Int) := by omega
      obtain ⟨cs, all, t, hu⟩ := HU.out
      have U1 := hide hu
      have hinv := hu.2.2.2.2.1
      have hsame := hu.2.2.2.2.2.1
      have HI := hide hinv
      have HSM := hide hsame
      obtain ⟨vr1, vn1, vb1, vk1, vf1, has1, tp1, fr1, vt1, hcm, hxv⟩ := hu.2.2.2.2.2.2
      have X1 := hide hxv
      have z2 : wr.cell? ⟨bc, 2, none⟩ = some (.int .i64 all) := cell_of_heap hcm.blk 2
      clear hu HU U5 hinv hsame hcm hxv
      go_wp2_with fail
      refine (xrows_rd X1.out).mono ?_
      rintro e w6 ⟨b6, x6, n6, c6, rfl, r6⟩
      have K6 := hide (Kp.below b6)
      have R6 := hide r6
      have X6 := hide (X1.out.below b6)
      have U6 := hide (U1.out.below b6)
      clear b6 r6 z2 U1 K6
      go_wp2_with fail
      refine (xtable_rd X6.out).mono ?_
      rintro e w7 ⟨b7, x7, n7, c7, rfl, r7⟩
      have T7 := hide r7
      have R7 := hide (R6.out.below b7)
      have U7 := hide (U6.out.below b7)
      clear b7 r7 R6 U6 X6
      go_wp2_with fail
      refine (U7.out.batch hs2).mono ?_
      rintro e w8 ⟨x8, n8, c8, rfl, ub, rc, kp⟩
      have UB8 := hide ub
      have C8 := hide rc
      have T8 := hide (kp.c _ _ T7.out)
      have R8 := hide (kp.o _ _ R7.out)
      have BD := hide (batch_bd s2.data.toList HI.out)
      have BO := hide (Pk.batch_ok s2.data.toList HI.out HSM.out)
      clear ub rc kp T7 R7 U7
      go_wp2_with fail
      refine (UB8.out.apply C8.out).mono ?_
      rintro e w9 ⟨x9, n9, c9, rfl, um, ro, kp⟩
      have B9 := hide um.1
      have HN := hide um.2.2.1
      obtain ⟨vr2, vn2, vb2, vk2, vf2, has2, tp2, fr2, vt2, _, hxv⟩ := um.2.2.2.2.2.2
      have X9 := hide hxv
      have O9 := hide ro
      have T9 := hide (kp.c _ _ T8.out)
      have R9 := hide (kp.o _ _ R8.out)
      have C9 := hide (kp.c _ _ C8.out)
      have TI := hide X1.out.inv
      clear um ro kp hxv T8 R8 C8 UB8 X1
      generalize (Pk.batchF s2.data.toList cs all).l = l at *
      go_wp2_with fail
      refine (turned_any C9.out (by have := BD.out.1; omega) BD.out.2.1).mono ?_
      rintro e w10 ⟨b10, x10, n10, c10, rfl, own10⟩
      have B10 := hide (B9.out.trans (b10.mono B9.out.size))
      have X10 := hide (X9.out.below b10)
      have O10 := hide (O9.out.below b10)
      have T10 := hide (T9.out.below b10)
      have R10 := hide (R9.out.below b10)
      have C10 := hide (RdC.ofOwn own10)
      have HT := hide (Pk.turn_ok TI.out HI.out HSM.out BD.out.1 BD.out.2.2)
      have HO := hide (Pk.undone_outs (q := Q) TI.out HI.out HSM.out (by rw [BO.out.1]) BD.out.1 BD.out.2.2)
      clear b10 own10 X9 O9 T9 R9 C9
      go_wp2_with fail
      refine (xapply_plain B10.out HN.out (Nat.le_refl _) HT.out.1 (by have := BD.out.1; simp [Pk.turnF]; omega) X10.out C10.out).mono ?_
      rintro e w11 ⟨x11, n11, c11, vt11, rfl, b11, xv11, ro11, kp⟩
      rw [HT.out.2] at xv11
      have B11 := hide b11
      have X11 := hide xv11
      have P11 := hide ro11
      have O11 := hide (kp.o _ _ O10.out)
      have T11 := hide (kp.c _ _ T10.out)
      have R11 := hide (kp.o _ _ R10.out)
      have SM11 := hide (applied_small X10.out.q X10.out.inv (by rw [HT.out.1]))
      clear b11 xv11 ro11 kp O10 T10 R10 X10 C10
      go_wp2_with fail
      refine (xrows_rd X11.out).mono ?_
      rintro e w12 ⟨b12, x12, n12, c12, rfl, r12⟩
      have B12 := hide (B11.out.trans (b12.mono B11.out.size))
      have X12 := hide (X11.out.below b12)
      have P12 := hide (P11.out.below b12)
      have O12 := hide (O11.out.below b12)
      have T12 := hide (T11.out.below b12)
      have R12 := hide (R11.out.below b12)
      have Q12 := hide r12
      clear b12 r12 X11 P11 O11 T11 R11
      go_wp2_with fail
      refine (xtable_rd X12.out).mono ?_
      rintro e w13 ⟨b13, x13, n13, c13, rfl, r13⟩
      have B13 := hide (B12.out.trans (b13.mono B12.out.size))
      have P13 := hide (P12.out.below b13)
      have O13 := hide (O12.out.below b13)
      have T13 := hide (T12.out.below b13)
      have R13 := hide (R12.out.below b13)
      have Q13 := hide (Q12.out.below b13)
      have V13 := hide r13
      have SM13 := hide (rows_small X12.out.q X12.out.inv)
      have TI13 := hide X12.out.inv
      clear b13 r13 P12 O12 T12 R12 Q12
      rw [HO.out, ← timesO_neg] at O13
      go_wp2_with fail
      refine (ksameOuts_eq (sg := -1) O13.out P13.out (by have := SM11.out.1; omega) (fun x hx => by obtain ⟨h1, h2, h3⟩ := SM11.out.2 x hx; exact ⟨h1, wrapNeg h2 h3⟩)).mono ?_
      rintro e w14 ⟨rfl, b14⟩
      have B14 := hide (B13.out.trans (b14.mono B13.out.size))
      have T14 := hide (T13.out.below b14)
      have R14 := hide (R13.out.below b14)
      have Q14 := hide (Q13.out.below b14)
      have V14 := hide (V13.out.below b14)
      clear b14 O13 P13 T13 R13 Q13 V13
      rw [← timesO_one (Pv.rowsF Q t)] at R14
      go_wp2_with fail
      refine (ksameOuts_eq (sg := 1) R14.out Q14.out (by have := SM13.out.1; omega) (fun x hx => by obtain ⟨h1, h2, h3⟩ := SM13.out.2 x hx; exact ⟨h1, wrapOne h2 h3⟩)).mono ?_
      rintro e w15 ⟨rfl, b15⟩
      have B15 := hide (B14.out.trans (b15.mono B14.out.size))
      have T15 := hide (T14.out.below b15)
      have V15 := hide (V14.out.below b15)
      clear b15 T14 R14 Q14 V14
      go_wp2_with fail
      refine (ksameTables_eq T15.out V15.out (by have := TI13.out.len; omega)).mono ?_
      rintro e w16 ⟨rfl, b16⟩
      have B16 := hide (B15.out.trans (b16.mono B15.out.size))
      have V16 := hide (V15.out.below b16)
      have HTT : Hid (Pv.totalF t = all) := (Pk.total_eq HSM.out).trans HI.out.tot
      clear b16 T15 V15
      go_wp2_with fail
      refine (copies_any V16.out (by have := TI13.out.len; omega) (fun c hc => by have := TI13.out.bd c hc; omega)).mono ?_
      rintro e w17 ⟨rfl, hw17⟩
      obtain rfl := hw17.symm
      rw [HTT.out]
      clear hw17
      go_wp2
      go_ret
      exact ⟨by simp, B16.out⟩
end Go.Proofs.YtcoofnhdbejnpaaGreatDoor

/-
  For every text of raw bytes, both choices of by and top, every list of raw bytes and every last text of raw bytes: paneskeep.Undone returns true, and its arguments read afterwards as before. Conditions: the three tables of math/bits and internal/strconv that the road names start as the program's text lays them (the card ties them).
-/
namespace Go.Proofs.YtcoofnhdbejnpaaGreatDoor
open Go.ChangeShapes Go.WideShapes Go.ChangeAt Go.RowKit Go.Deep
open Go.ChangeMaps (open_string shut_string)
theorem kown : ownKnob Tryz.prog.godebug = none := by kernel_rfl
theorem klaidOut : laidOutB Tryz.prog = true := by kernel_rfl
theorem kcellsStr : Tryz.prog.cellsOf 9 = 1 := by kernel_rfl
def strAt (w : World) (a : Addr) (i : Nat) : ByteArray := match w.cell? (a.add i) with | some (.string s) => s | _ => ByteArray.empty
theorem strAt_of {H : Type} {enc : TypeId × Value → H} {W : World} {a : Addr} {i n : Nat} {v : Value} {x : DataW H × List MemPlace} (hc : W.cell? (a.add i) = some v) (ht : DataW.trod enc Tryz.prog W 0 (fun _ => true) true n 9 [v] = some x) : W.cell? (a.add i) = some (.string (strAt W a i)) ∧ (strAt W a i).size ≤ maxLen := by
  obtain ⟨s, hs, _, hsz⟩ := DataW.trod_string Tryz.underlying9 ht
  have e : v = .string s := by simpa using hs
  subst e
  have : strAt W a i = s := by unfold strAt; rw [hc]
  rw [this]
  exact ⟨hc, hsz⟩
theorem kbytesStr : Tryz.prog.bytesOf 9 = 16 := by kernel_rfl
theorem undone_door (os : Os) (args : Array Value) : laidMetH Tryz.prog Rows.undoneRow.laid ((World.doorLaid Tryz.prog 100 os).forCall (fun _ _ => 0) ⟨#[], args, []⟩).memory :=
  laidMetH_of_parts3 (fuel := 8) (laidMet_of_run' 8 (by kernel_rfl) (by kernel_rfl)) (by kernel_rfl) (by kernel_rfl)
set_option maxRecDepth 100000 in
set_option maxHeartbeats 1000000 in
theorem undone_lifted (os : Os) (started : os.Started) (H : Type) (enc : TypeId × Value → H) :
    ReturnsInHanded {} Tryz.checked os 8 .any (fun w args => (Rows.undoneSpec.pre enc Tryz.prog Tryz.f8 [] false w args ∧ laidMetH Tryz.prog Rows.undoneRow.laid w) ∧ sizedMet enc Tryz.prog Tryz.f8 (OpenSpec.ofChange Rows.undoneSpec) false w args)
      (Rows.undoneSpec.post enc Tryz.prog Tryz.f8 false true false false) := by
  refine returnsInHanded_of_change_and (C := Tryz.checked) (X := fun w _ => laidMetH Tryz.prog Rows.undoneRow.laid w) (fun _ _ _ hh h => h.of_heap hh) kown started (by kernel_rfl) Tryz.func8
    (ChangeSpec.witness_shaped (enc := enc) (C := Tryz.checked) (os := os) (X := fun w _ => laidMetH Tryz.prog Rows.undoneRow.laid w) false (World.doorLaid Tryz.prog 100 os) #[.string ByteArray.empty, .bool false, .bool false, .slice none 0 0, .string ByteArray.empty] 8 rfl (World.shaped_of_RefB (by kernel_rfl) (by kernel_rfl)) (by kernel_rfl) (by kernel_rfl) (by kernel_rfl) (undone_door os _)) ?_
  intro W base args ds gs before hval0 hW _ hwt0 _ _
  have hwt : (DataW.weightsEach Tryz.prog (Tryz.f8.params.toList ++ Rows.undoneSpec.plain.varTypes Tryz.prog) (ds ++ gs)).all (· ≤ reachBytes) = true := hwt0
  clear hwt0
  have hval : ∀ (j : Nat) t v, Tryz.f8.params[j]? = some t → args[j]? = some v → Value.okWide Tryz.prog W .any base t v := hval0
  have hW' := hW
  obtain ⟨p, q, hA0, hV, rfl, hfz, hnd⟩ := hW
  have hA : DataW.TrodAll enc Tryz.prog W 0 (fun _ => true) true Tryz.f8.params.toList args.toList ds p := hA0
  rw [Tryz.params8] at hA hval hwt
  obtain ⟨v0, vs0, d0, ds0, p0, q0, hargs, rfl, rfl, h0, r0⟩ := trodAll_cons hA
  obtain ⟨v1, vs1, d1, ds1, p1, q1, rfl, rfl, rfl, h1, r1⟩ := trodAll_cons r0
  obtain ⟨v2, vs2, d2, ds2, p2, q2, rfl, rfl, rfl, h2, r2⟩ := trodAll_cons r1
  obtain ⟨v3, vs3, d3, ds3, p3, q3, rfl, rfl, rfl, h3, r3⟩ := trodAll_cons r2
  obtain ⟨v4, vs4, d4, ds4, p4, q4, rfl, rfl, rfl, h4, r4⟩ := trodAll_cons r3
  obtain ⟨rfl, rfl, rfl⟩ := trodAll_nil r4
  obtain rfl : args = #[v0, v1, v2, v3, v4] := by cases args; simp_all
  obtain ⟨rfl, rfl⟩ := trodVars_none hV
  obtain ⟨a0, rfl, rfl, rfl, w0⟩ := open_string Tryz.underlying9 (hval 0 9 v0 rfl rfl) h0
  obtain ⟨a1, rfl, rfl, rfl⟩ := open_bool Tryz.underlying4 (hval 1 4 v1 rfl rfl) h1
  obtain ⟨a2, rfl, rfl, rfl⟩ := open_bool Tryz.underlying4 (hval 2 4 v2 rfl rfl) h2
  obtain ⟨a4, rfl, rfl, rfl, w4⟩ := open_string Tryz.underlying9 (hval 4 9 v4 rfl rfl) h4
  have h3k := h3
  obtain ⟨x3, len, cap, rfl⟩ := okWide_slice Tryz.underlying58 (hval 3 58 v3 rfl rfl)
  obtain ⟨fuel, hf⟩ := h3
  clear hA0 hval0
  simp only [List.append_nil, List.nil_append] at hW'
  have hlt : ∀ x ∈ p3, x.block < W.heap.size := fun x hx => hW'.lt x (by simpa using hx)
  have tail : ∀ W' : World, Below W.heap.size W W' → Rows.undoneSpec.post enc Tryz.checked.prog Tryz.f8 false true false false W #[.string a0, .bool a1, .bool a2, .slice x3 len cap, .string a4] (.bool true) W' := by
    intro W' hb
    refine ⟨_, _, _, [], [] ++ ([] ++ ([] ++ (p3 ++ ([] ++ [])))), [], hW', trodAll_cons_mk (shut_bool Tryz.underlying4 _) trodAll_mk0, ?_, rfl, hb.frame _, fun h => by cases h⟩
    exact trodAll_cons_mk (shut_string Tryz.underlying9 w0) (trodAll_cons_mk (shut_bool Tryz.underlying4 a1) (trodAll_cons_mk (shut_bool Tryz.underlying4 a2) (trodAll_cons_mk (WideElems.Trod_stays klaidOut (by kernel_rfl) (of_decide_eq_true (by kernel_rfl)) h3k (fun x hx => hb.same (hlt x hx)) (fun x hx => by simpa using hlt x hx)) (trodAll_cons_mk (shut_string Tryz.underlying9 w4) trodAll_mk0))))
  rcases open_slice1 Tryz.underlying58 kcellsStr hf with ⟨hcs, hx⟩ | ⟨a, len', cap', m, n, V, D, Pl, hcs, hb, hl, hm, hmm, hx, hel⟩
  · simp [Value.cells] at hcs
    obtain ⟨rfl, rfl, rfl⟩ := hcs
    refine (undone_walk a0 a4 a1 a2 _ 0 (fun _ => ByteArray.empty) W w0 w4 (by omega) (.inl ⟨rfl, rfl⟩)).mono fun e W' ⟨he, hb⟩ => ?_
    subst he
    exact ⟨_, rfl, tail W' hb⟩
  · simp [Value.cells] at hcs
    obtain ⟨rfl, rfl, rfl⟩ := hcs
    have hlen : len ≤ 1000000000000000 := by
      have e : d3 = _ := congrArg Prod.fst hx
      rw [e] at hwt
      simp only [List.cons_append, List.nil_append, List.append_nil, DataW.weightsEach, DataW.weights, Tryz.underlying58, kbytesStr, List.all_cons, List.all_append, Bool.and_eq_true, decide_eq_true_eq] at hwt
      have hr : reachBytes = 140737488351232 := rfl
      simp at hwt
      omega
    simp only [if_true] at hmm
    subst hmm
    refine (undone_walk a0 a4 a1 a2 _ len (strAt W a) W w0 w4 hlen (.inr ⟨a, m, rfl, fun i hi => ?_⟩)).mono fun e W' ⟨he, hb⟩ => ?_
    · obtain ⟨h1, h2⟩ := hel i (by omega)
      obtain ⟨h3, h4⟩ := strAt_of h1 h2
      refine ⟨?_, h3, h4⟩
      have := World.cell?_lt h3
      unfold Addr.add at this
      split at this <;> exact this
    · subst he
      exact ⟨_, rfl, tail W' hb⟩
theorem undone_holds : Rows.UndoneSaid :=
  OpenClaim.holds_of_wide 8 Tryz.f8 rfl rfl rfl rfl rfl rfl rfl ⟨rfl, rfl, rfl, rfl, rfl⟩ rfl rfl rfl rfl rfl (by kernel_rfl) Tryz.func8 (by kernel_rfl)
    (of_decide_eq_true (by kernel_rfl)) (by unfold Func.isWrapper; first | (rw [if_pos (by decide +kernel)]; kernel_rfl) | (rw [if_neg (by decide +kernel)]; exact ⟨rfl, rfl⟩))
    (fun os started H enc _ => undone_lifted os started H enc)
end Go.Proofs.YtcoofnhdbejnpaaGreatDoor

/-
  For every text of raw bytes, both choices of by and top, every list of raw bytes and every last text of raw bytes: paneskeep.Undone returns true, and its arguments read afterwards as before. No condition beyond the tie: the three tables of math/bits and internal/strconv that the road names are tied to the text of the program.
-/
namespace Go.Proofs.YtcoofnhdbejnpaaGreatDoor
open Go
theorem undone_card_holds : Rows.UndoneCardSaid :=
  Claim7.holds_tied_plain_at .later [] [.data, .data, .data] true (true, "f2733e87251a474c41742e927a9d7f8a24398deaa213218e7e6105b0248c191c") true
    undone_holds (fun _ h => by cases h) (by kernel_rfl) (fun _ h => by cases h) undone_row_tie rfl ⟨rfl, rfl⟩ (by kernel_rfl) rfl
    (fun f fn hf hfn => by
      obtain rfl : f = 8 := Option.some.inj ((show Tryz.prog.funcNamed Tryz.f8.name = some 8 by kernel_rfl).symm.trans hf) |>.symm
      obtain rfl : fn = Tryz.f8 := (Option.some.inj (Tryz.func8.symm.trans hfn)).symm
      exact ⟨by kernel_rfl, fun j t ht => by
        rw [Tryz.params8] at ht
        have hm : t ∈ [9, 4, 4, 58, 9] := by simpa using Array.mem_of_getElem? ht
        have hall : ([9, 4, 4, 58, 9].all fun u => !Tryz.prog.wantsStandIn u) = true := by kernel_rfl
        exact (show Tryz.prog.wantsStandIn t = false by simpa using List.all_eq_true.1 hall t hm)⟩)
    (by kernel_rfl)
end Go.Proofs.YtcoofnhdbejnpaaGreatDoor

