/- Package paneskeep: Adds answers true. -/
import Derived.Test.YtcoofnhdbejnpaaGreatDoorG11
import Derived.Test.YtcoofnhdbejnpaaGreatDoorG12
import Derived.Test.YtcoofnhdbejnpaaGreatDoorG43
import Derived.Test.YtcoofnhdbejnpaaGreatDoorG44
import Derived.Test.YtcoofnhdbejnpaaGreatDoorG47
import Derived.Test.YtcoofnhdbejnpaaGreatDoorRows
import Derived.ProofKit
import Derived.LaidMore
import Derived.OpenShut
import Derived.ShutString
import Derived.Stop.Joined
import Derived.Deep.Slices
import Derived.WideKeyArgs
import Derived.Deep.DeepWitnessRowRef
import Derived.Test.YtcoofnhdbejnpaaGreatDoorCards
import Derived.Test.YtcoofnhdbejnpaaGreatDoorTie
import Derived.SevenTiedAt
namespace Go.Proofs.YtcoofnhdbejnpaaGreatDoor
open Go.RowKit
/-- by rounds -/
def AM (N : Nat) (w wr : World) (bc gx : Nat) (Q : Pv.Qry) (v : Value) (k : Nat) : Prop := ∃ cs all t S, UM N w wr bc gx Q cs all t ∧ OwnO wr N v S ∧ SM Q t k S
theorem UM.inv {N : Nat} {w wr : World} {bc gx : Nat} {Q : Pv.Qry} {cs : List Pv.Chg} {all : Int} {t : List Pv.Chg} (h : UM N w wr bc gx Q cs all t) : XVx wr gx Q t ∧ Pv.TInv t ∧ Pv.totalF t = all ∧ ∃ cur, wr.heap[bc]? = some (.cells cur 66 (0, 0)) ∧ wr.cell? ⟨bc, 2, none⟩ = some (.int .i64 all) := by
  obtain ⟨hb, hN1, hN2, hN3, hI, hS, vr, vn, vb, vk, vf, has, tp, fr, vt, hc, hx⟩ := h
  exact ⟨⟨vb, vk, vf, has, tp, fr, vt, hx⟩, hx.inv, (Pk.total_eq hS).trans hI.tot, _, hc.blk, cell_of_heap hc.blk 2⟩
set_option maxRecDepth 100000 in
set_option maxHeartbeats 2000000 in
theorem adds_walk (s : ByteArray) (b t0 : Bool) (vs : Value) (len : Nat) (S : Nat → ByteArray) (w : World) (hs : s.size ≤ maxLen) (hl : len ≤ 1048576)
    (hv : (vs = .slice none 0 0 ∧ len = 0) ∨ ∃ a cap, vs = .slice (some a) len cap ∧ ∀ i, i < len → a.block < w.heap.size ∧ w.cell? (a.add i) = some (.string (S i)) ∧ (S i).size ≤ maxLen) :
    Calls Tryz.prog 7 #[.string s, .bool b, .bool t0, vs] w fun e w' => e = .returned (.bool true) ∧ Below w.heap.size w w' := by
  have HA := hide (Pk.reads_full s.data.toList b t0)
  obtain ⟨xv, cv, rfl⟩ : ∃ x c, vs = .slice x len c := by
    rcases hv with ⟨h1, h2⟩ | ⟨a, c, h1, _⟩
    · exact ⟨none, 0, by rw [h1, h2]⟩
    · exact ⟨_, _, h1⟩
  have HV := hide hv
  clear hv
  go_enter Tryz.func7, Tryz.ntmps7
  go_wp2_with fail
  refine (query_any s b t0 _ hs).mono ?_
  rintro e w1 ⟨rfl, b1⟩
  generalize Pk.queryS s.data.toList b t0 = x at *
  obtain ⟨q, ⟨hq, ⟨hr, n, he⟩, _, hL⟩, hpl, _, htn, hts, _, _⟩ := HA.out
  have l1 : x.raw.length ≤ 300 := hL.1
  have l2 : x.plain.length ≤ 300 := hL.2
  obtain ⟨pre, post, hsp, hww, hsc⟩ := Pk.show_any hq (Pk.fullOf q)
  have HSP : Hid (x.plain = pre ++ ([115, 104, 111, 119] ++ post)) := hpl.trans hsp
  have HWW := hide hww
  have HSC := hide hsc
  have HQ := hide hq
  have HR := hide hr
  have HE := hide he
  have HTP : Hid (t0 = false → (Pk.qryOf q).top < 0) := fun h => by
    have := htn h
    show (match q.top with | some (a, _) => (a : Int) | none => -1) < 0
    rw [this]
    show (-1 : Int) < 0
    omega
  have HFN : Hid (∀ f ∈ (Pk.qryOf q).fs, 0 ≤ f.num) := fun f hf => fn_nn f (hq.fg f hf)
  have HFL : Hid ((Pk.qryOf q).fs.length = q.funcs.length) := rfl
  have hfl : q.funcs.length ≤ 4 := hq.fl
  have B1 := hide b1
  clear b1 hq hr he hL hpl hsp hww hsc htn hts HA
  go_upto_region 2 with fail
  have D2 := hide (heap_alloc_new w1 (.cells #[.string ⟨x.raw.toArray⟩, .string ⟨x.plain.toArray⟩] 60))
  have B2 := hide (B1.out.alloc B1.out.size (.cells #[.string ⟨x.raw.toArray⟩, .string ⟨x.plain.toArray⟩] 60))
  generalize w1.alloc (.cells #[.string ⟨x.raw.toArray⟩, .string ⟨x.plain.toArray⟩] 60) = w2 at *
  generalize w1.heap.size = bx at *
  have c0 : w2.cell? ⟨bx, 0, none⟩ = some (.string ⟨x.raw.toArray⟩) := cell_of_heap D2.out 0
  have c1 : w2.cell? ⟨bx, 1, none⟩ = some (.string ⟨x.plain.toArray⟩) := cell_of_heap D2.out 1
  go_wp2_with fail
  refine (values_any (s := ⟨x.plain.toArray⟩) (pre := pre) (post := post) (by simpa using HSP.out) HWW.out (by show x.plain.toArray.size ≤ 300; simp; omega) w2).mono ?_
  rintro e w2' ⟨rfl, hw5⟩
  obtain rfl := hw5.symm
  clear hw5
  rw [HSC.out]
  simp only []
  clear c1 HSC HWW HSP
  go_wp2_with fail
  refine (begin_any (s := ⟨x.raw.toArray⟩) (n := n) (by show x.raw.toArray.size ≤ maxLen; unfold maxLen; simp; omega) HQ.out HR.out HE.out w2).mono ?_
  rintro e w3 ⟨b3, g, vb, vk, vf, has, tp, fr, rfl, hg, hx⟩
  have B3 := hide (B2.out.trans (b3.mono B2.out.size))
  have hg' : w.heap.size ≤ g := Nat.le_trans B2.out.size hg
  have X3 := hide hx
  clear b3 hx c0 D2 hg HR HE HQ
  go_upto_region 7 with fail
  have U4 := hide (UM.start B3.out hg' X3.out rfl)
  generalize w3.alloc (.cells #[.slice none 0 0, .slice none 0 0, .int .i64 0] 66) = w4 at *
  generalize w3.heap.size = bc at *
  have U5 : Hid (AM w.heap.size w w4 bc g (Pk.qryOf q) (.slice none 0 0) 0) := ⟨_, _, _, [], U4.out, OwnO.nil _ _, SM.nil _⟩
  clear U4 X3 hg'
  generalize Pk.qryOf q = Q at *
  rw [← HFL.out]
  rw [← HFL.out] at hfl
  clear HFL
  go_wp2
  go_loopw [14, 15] (fun vsum i wr => ∃ k : Nat, k ≤ len ∧ i = .int .i64 k ∧ (∃ x m c, vsum = .slice x m c) ∧ Hid (AM w.heap.size w wr bc g Q vsum k)) (fun _ i _ => len - (intOf i).toNat)
  case atStart => exact ⟨0, by omega, rfl, ⟨_, _, _, rfl⟩, U5⟩
  case round =>
    obtain ⟨k, hk, rfl, ⟨x0, n0, c0, rfl⟩, HU⟩ := hrel
    clear U5
    by_cases hlt : k < len
    · have hlt' : (k : Int) < (len : Int) := by omega
      obtain ⟨cs, all, t, SU, hu, ho, hsm⟩ := HU.out
      have U1 := hide hu
      have O1 := hide ho
      have HSM := hide hsm
      have HBO := hide (Pk.batch_ok (S k).data.toList hu.2.2.2.2.1 hu.2.2.2.2.2.1)
      have TI := hide hu.inv.2.1
      have SMR := hide (hu.inv.1.small.1 TI.out)
      have SMA : Hid ((Pv.appliedF Q t (Pk.batchF (S k).data.toList cs all).l).length ≤ 320000 ∧ ∀ x ∈ Pv.appliedF Q t (Pk.batchF (S k).data.toList cs all).l, x.2.1.length ≤ 1000 ∧ -320000 ≤ x.2.2 ∧ x.2.2 ≤ 320000) := hu.inv.1.small.2 TI.out (by rw [HBO.out.1])
      clear hu ho hsm HU
      obtain ⟨a, cap, ea, hcell⟩ : ∃ a cap, Value.slice xv len cv = .slice (some a) len cap ∧ ∀ i, i < len → a.block < w.heap.size ∧ w.cell? (a.add i) = some (.string (S i)) ∧ (S i).size ≤ maxLen := by
        rcases HV.out with ⟨_, h2⟩ | h
        · omega
        · exact h
      cases ea
      obtain ⟨hal, hc1, hsz⟩ := hcell k hlt
      have d0 : wr.cell? (a.add k) = some (.string (S k)) := (U1.out.1.cell (p := a.add k) (by unfold Addr.add; split <;> exact hal)).trans hc1
      clear hcell hc1
      go_wp2_with fail
      refine (U1.out.batchO hsz O1.out).mono ?_
      rintro e w6 ⟨x6, n6, c6, rfl, ub, rc, ow⟩
      have UB6 := hide ub
      have RC6 := hide rc
      have O6 := hide ow
      clear ub rc ow d0 U1 O1
      go_wp2_with fail
      refine (UB6.out.applyO RC6.out O6.out).mono ?_
      rintro e w7 ⟨x7, n7, c7, rfl, um, rd, ow, hne⟩
      have U7 := hide um
      have R7 := hide rd
      have O7 := hide ow
      have HNE := hide hne
      have h0 : (Pv.refusedF t (Pk.batchF (S k).data.toList cs all).l).1 = 0 := by rw [HBO.out.1]
      have HP := hide (applied_prop9 TI.out h0 HFN.out (fun x hx => (SMA.out.2 x hx).2))
      have HST := hide (HSM.out.step TI.out h0 HFN.out SMA.out.1)
      have HJI := hide (HSM.out.ji TI.out (fun x hx => (SMR.out.2 x hx).2))
      have hal := SMA.out.1
      have hfew := HSM.out.few
      clear um rd ow hne UB6 RC6 O6 HSM HBO TI SMR SMA h0
      generalize Pv.tableF t (Pk.batchF (S k).data.toList cs all).l = t2 at *
      generalize Pv.appliedF Q t (Pk.batchF (S k).data.toList cs all).l = D at *
      generalize (Pk.batchF (S k).data.toList cs all).cs = cs2 at *
      generalize (Pk.batchF (S k).data.toList cs all).all = all2 at *
      go_wp2_with fail
      refine (proper_any R7.out (by omega) HP.out (by omega)).mono ?_
      rintro e w8 ⟨rfl, b8⟩
      have U8 := hide (U7.out.below b8)
      have R8 := hide (R7.out.below b8)
      have O8 := hide (O7.out.below b8)
      clear b8 U7 R7 O7
      go_wp2_with fail
      refine (U8.out.joined O8.out R8.out HNE.out HJI.out (by omega) HP.out (by omega) (by omega)).mono ?_
      rintro e w9 ⟨v9, rfl, um, ow⟩
      obtain ⟨x9, n9, c9, rfl⟩ := ow.sl3
      have U9 := hide um
      have O9 := hide ow
      clear um ow U8 R8 O8 HNE HJI HP
      go_wp2
      go_roundw
      case rel => exact ⟨k + 1, by omega, by go_num, ⟨_, _, _, rfl⟩, _, _, _, _, U9.out, O9.out, HST.out⟩
      case measure => simp [intOf]; omega
    · have hlt' : ¬ (k : Int) < (len : Int) := by omega
      obtain ⟨cs, all, t, SU, hu, ho, hsm⟩ := HU.out
      have B10 := hide hu.1
      obtain ⟨hx, ht, htot, cur, hblk, hcell⟩ := hu.inv
      have X10 := hide hx
      have TI := hide ht
      have O10 := hide ho
      have K10 := hide hblk
      have HC := hide hcell
      have SMR := hide (hx.small.1 ht)
      have HCV := hide (hsm.covers ht)
      have HLN := hide hsm.len
      have HP := hide (rows_prop9 ht HFN.out (fun x hx => (SMR.out.2 x hx).2))
      have hfew := hsm.few
      have HTT := hide htot
      clear hu HU ho hsm hx ht htot hblk hcell
      go_wp2_with fail
      refine (X10.out.rows).mono ?_
      rintro e w11 ⟨b11, x11, n11, c11, rfl, r11⟩
      have B11 := hide (B10.out.trans (b11.mono B10.out.size))
      have X11 : Hid (XVx w11 g Q t) := by
        obtain ⟨vb, vk, vf, has, tp, fr, vt, h⟩ := X10.out
        exact ⟨vb, vk, vf, has, tp, fr, vt, h.below b11⟩
      have hbl : bc < wr.heap.size := (Array.getElem?_eq_some_iff.1 K10.out).1
      have C11 : Hid (w11.cell? ⟨bc, 2, none⟩ = some (.int .i64 all)) := (b11.cell (p := ⟨bc, 2, none⟩) hbl).trans HC.out
      have hbl2 : bc < w11.heap.size := Nat.lt_of_lt_of_le hbl b11.size
      have R11 := hide r11
      have O11 := hide (O10.out.below b11)
      have hRl := SMR.out.1
      clear b11 r11 X10 K10 HC O10 B10 SMR hbl
      go_wp2_with fail
      refine (covers_any O11.out.rd R11.out (by omega) (by omega) HLN.out HP.out.len (by omega) HCV.out.1 HCV.out.2).mono ?_
      rintro e w12 ⟨rfl, b12⟩
      have B12 := hide (B11.out.trans (b12.mono B11.out.size))
      have X12 : Hid (XVx w12 g Q t) := by
        obtain ⟨vb, vk, vf, has, tp, fr, vt, h⟩ := X11.out
        exact ⟨vb, vk, vf, has, tp, fr, vt, h.below b12⟩
      have C12 : Hid (w12.cell? ⟨bc, 2, none⟩ = some (.int .i64 all)) := (b12.cell (p := ⟨bc, 2, none⟩) hbl2).trans C11.out
      have hbl3 : bc < w12.heap.size := Nat.lt_of_lt_of_le hbl2 b12.size
      have R12 := hide (R11.out.below b12)
      clear b12 B11 X11 C11 R11 O11 HCV HLN hbl2
      go_wp2_with fail
      refine (proper_any R12.out (by omega) HP.out (by omega)).mono ?_
      rintro e w13 ⟨rfl, b13⟩
      have B13 := hide (B12.out.trans (b13.mono B12.out.size))
      have X13 : Hid (XVx w13 g Q t) := by
        obtain ⟨vb, vk, vf, has, tp, fr, vt, h⟩ := X12.out
        exact ⟨vb, vk, vf, has, tp, fr, vt, h.below b13⟩
      have C13 : w13.cell? ⟨bc, 2, none⟩ = some (.int .i64 all) := (b13.cell (p := ⟨bc, 2, none⟩) hbl3).trans C12.out
      clear b13 B12 X12 C12 R12 HP hbl3
      cases t0 with
      | true =>
        go_wp2
        go_ret
        exact ⟨rfl, B13.out⟩
      | false =>
        have hq := HTP.out rfl
        rw [← HTT.out] at C13
        go_wp2_with fail
        refine (whole_any X13.out TI.out HFN.out (by omega) hq).mono ?_
        rintro e w14 ⟨rfl, b14⟩
        have B14 := hide (B13.out.trans (b14.mono B13.out.size))
        clear b14
        go_wp2
        go_ret
        exact ⟨rfl, B14.out⟩
end Go.Proofs.YtcoofnhdbejnpaaGreatDoor

/-
  For every text of raw bytes, both choices of by and top, every list of raw bytes and every last text of raw bytes: paneskeep.Undone returns true, and its arguments read afterwards as before. Conditions: the three tables of math/bits and internal/strconv that the road names start as the program's text lays them (the card ties them).
-/
namespace Go.Proofs.YtcoofnhdbejnpaaGreatDoor
open Go.ChangeShapes Go.WideShapes Go.ChangeAt Go.RowKit Go.Deep
open Go.ChangeMaps (open_string shut_string)
theorem kown : ownKnob Tryz.prog.godebug = none := by kernel_rfl
theorem klaidOut : laidOutB Tryz.prog = true := by kernel_rfl
theorem kcellsStr : Tryz.prog.cellsOf 9 = 1 := by kernel_rfl
def strAt (w : World) (a : Addr) (i : Nat) : ByteArray := match w.cell? (a.add i) with | some (.string s) => s | _ => ByteArray.empty
theorem strAt_of {H : Type} {enc : TypeId × Value → H} {W : World} {a : Addr} {i n : Nat} {v : Value} {x : DataW H × List MemPlace} (hc : W.cell? (a.add i) = some v) (ht : DataW.trod enc Tryz.prog W 0 (fun _ => true) true n 9 [v] = some x) : W.cell? (a.add i) = some (.string (strAt W a i)) ∧ (strAt W a i).size ≤ maxLen := by
  obtain ⟨s, hs, _, hsz⟩ := DataW.trod_string Tryz.underlying9 ht
  have e : v = .string s := by simpa using hs
  subst e
  have : strAt W a i = s := by unfold strAt; rw [hc]
  rw [this]
  exact ⟨hc, hsz⟩
end Go.Proofs.YtcoofnhdbejnpaaGreatDoor

/-
  For every text of raw bytes, both choices of by and top and every list of raw bytes, all together of bulk at most 1048576: paneskeep.Adds returns true, and its arguments read afterwards as before. Conditions: the bulk, and the three tables of math/bits and internal/strconv that the road names start as the program's text lays them (the card ties them).
-/
namespace Go.Proofs.YtcoofnhdbejnpaaGreatDoor
open Go.ChangeShapes Go.WideShapes Go.ChangeAt Go.RowKit Go.Deep
open Go.ChangeMaps (open_string shut_string)
theorem bulk_one {H : Type} (d : DataW H) : 1 ≤ Rows.uptoBulk d := by
  cases d with
  | lit l => cases l <;> simp [Rows.uptoBulk]
  | nil => simp [Rows.uptoBulk]
  | ptr d => simp [Rows.uptoBulk]
  | slice elems spare => simp [Rows.uptoBulk]
  | agg parts => simp [Rows.uptoBulk]
  | iface t d => simp [Rows.uptoBulk]
  | map entries => simp [Rows.uptoBulk]
  | held h => simp [Rows.uptoBulk]
/-- so many values at the most -/
theorem bulk_len {H : Type} : ∀ l : List (DataW H), l.length ≤ Rows.uptoBulkAll l
  | [] => by simp
  | x :: r => by
    have h1 := bulk_one x
    have h2 := bulk_len r
    simp only [Rows.uptoBulkAll, List.length_cons]
    omega
theorem adds_door (os : Os) (args : Array Value) : laidMetH Tryz.prog Rows.addsUptoRow.laid ((World.doorLaid Tryz.prog 100 os).forCall (fun _ _ => 0) ⟨#[], args, []⟩).memory :=
  laidMetH_of_parts3 (fuel := 8) (laidMet_of_run' 8 (by kernel_rfl) (by kernel_rfl)) (by kernel_rfl) (by kernel_rfl)
theorem adds_reads (os : Os) {H : Type} (enc : TypeId × Value → H) : ∃ places, DataW.whole enc Tryz.prog ((World.doorLaid Tryz.prog 100 os).forCall (fun _ _ => 0) ⟨#[], #[.string ByteArray.empty, .bool false, .bool false, .slice none 0 0], []⟩).memory Tryz.f7.params.toList Rows.addsSpec.vars false #[Value.string ByteArray.empty, .bool false, .bool false, .slice none 0 0].toList 8 = some ([.lit (.string []), .lit (.bool false), .lit (.bool false), .nil], [], places) :=
  ⟨[], by kernel_rfl⟩
set_option maxRecDepth 100000 in
set_option maxHeartbeats 1000000 in
theorem adds_lifted (os : Os) (started : os.Started) (H : Type) (enc : TypeId × Value → H) (F : Stop.Interp) :
    ReturnsInHanded {} Tryz.checked os 7 .any ((Rows.OpenSpec.upto Rows.addsSpec).preRow enc Tryz.prog Tryz.f7 Rows.addsUptoRow.domain false Rows.addsUptoRow.laid) (((Rows.OpenSpec.upto Rows.addsSpec).at F).post enc Tryz.prog Tryz.f7 false true false false) := by
  obtain ⟨places, hrx⟩ := adds_reads os enc
  refine returnsInHanded_of_row (C := Tryz.checked) (s := Rows.OpenSpec.upto Rows.addsSpec) kown started (by kernel_rfl) Tryz.func7
    (witness_row_atRef (enc := enc) (C := Tryz.checked) false (World.doorLaid Tryz.prog 100 os) #[.string ByteArray.empty, .bool false, .bool false, .slice none 0 0] rfl (by kernel_rfl) (by kernel_rfl) (by kernel_rfl)
      (OpenSpec.preRow_of_cond 8 hrx (by kernel_rfl) (fun k hk => by cases hk; kernel_rfl) (by kernel_rfl) (adds_door os _))) ?_
  intro W base args ds gs before hval0 hW _ hcond _ _ _ _
  have hbd : Rows.uptoSmall H (ds ++ gs) = true := hcond _ rfl
  clear hcond
  have hval : ∀ (j : Nat) t v, Tryz.f7.params[j]? = some t → args[j]? = some v → Value.okWide Tryz.prog W .any base t v := hval0
  have hW' := hW
  obtain ⟨p, q, hA0, hV, rfl, hfz, hnd⟩ := hW
  have hA : DataW.TrodAll enc Tryz.prog W 0 (fun _ => true) true Tryz.f7.params.toList args.toList ds p := hA0
  rw [Tryz.params7] at hA hval
  obtain ⟨v0, vs0, d0, ds0, p0, q0, hargs, rfl, rfl, h0, r0⟩ := trodAll_cons hA
  obtain ⟨v1, vs1, d1, ds1, p1, q1, rfl, rfl, rfl, h1, r1⟩ := trodAll_cons r0
  obtain ⟨v2, vs2, d2, ds2, p2, q2, rfl, rfl, rfl, h2, r2⟩ := trodAll_cons r1
  obtain ⟨v3, vs3, d3, ds3, p3, q3, rfl, rfl, rfl, h3, r3⟩ := trodAll_cons r2
  obtain ⟨rfl, rfl, rfl⟩ := trodAll_nil r3
  obtain rfl : args = #[v0, v1, v2, v3] := by cases args; simp_all
  obtain ⟨rfl, rfl⟩ := trodVars_none hV
  obtain ⟨a0, rfl, rfl, rfl, w0⟩ := open_string Tryz.underlying9 (hval 0 9 v0 rfl rfl) h0
  obtain ⟨a1, rfl, rfl, rfl⟩ := open_bool Tryz.underlying4 (hval 1 4 v1 rfl rfl) h1
  obtain ⟨a2, rfl, rfl, rfl⟩ := open_bool Tryz.underlying4 (hval 2 4 v2 rfl rfl) h2
  have h3k := h3
  obtain ⟨x3, len, cap, rfl⟩ := okWide_slice Tryz.underlying58 (hval 3 58 v3 rfl rfl)
  obtain ⟨fuel, hf⟩ := h3
  clear hA0 hval0
  simp only [List.append_nil, List.nil_append] at hW'
  have hlt : ∀ x ∈ p3, x.block < W.heap.size := fun x hx => hW'.lt x (by simpa using hx)
  have tail : ∀ W' : World, Below W.heap.size W W' → Rows.addsSpec.post enc Tryz.checked.prog Tryz.f7 false true false false W #[.string a0, .bool a1, .bool a2, .slice x3 len cap] (.bool true) W' := by
    intro W' hb
    refine ⟨_, _, _, [], [] ++ ([] ++ ([] ++ (p3 ++ []))), [], hW', trodAll_cons_mk (shut_bool Tryz.underlying4 _) trodAll_mk0, ?_, rfl, hb.frame _, fun h => by cases h⟩
    exact trodAll_cons_mk (shut_string Tryz.underlying9 w0) (trodAll_cons_mk (shut_bool Tryz.underlying4 a1) (trodAll_cons_mk (shut_bool Tryz.underlying4 a2) (trodAll_cons_mk (WideElems.Trod_stays klaidOut (by kernel_rfl) (of_decide_eq_true (by kernel_rfl)) h3k (fun x hx => hb.same (hlt x hx)) (fun x hx => by simpa using hlt x hx)) trodAll_mk0)))
  rcases open_slice1 Tryz.underlying58 kcellsStr hf with ⟨hcs, hx⟩ | ⟨a, len', cap', m, n, V, D, Pl, hcs, hb, hl, hm, hmm, hx, hel⟩
  · simp [Value.cells] at hcs
    obtain ⟨rfl, rfl, rfl⟩ := hcs
    refine (adds_walk a0 a1 a2 _ 0 (fun _ => ByteArray.empty) W w0 (by omega) (.inl ⟨rfl, rfl⟩)).mono fun e W' ⟨he, hb⟩ => ?_
    subst he
    exact ⟨_, rfl, tail W' hb⟩
  · simp [Value.cells] at hcs
    obtain ⟨rfl, rfl, rfl⟩ := hcs
    have hlen : len ≤ 1048576 := by
      have e : d3 = _ := congrArg Prod.fst hx
      rw [e] at hbd
      have h9 := of_decide_eq_true hbd
      simp only [List.append_nil, Rows.uptoBulkAll, Rows.uptoBulk] at h9
      have h10 := bulk_len (List.map D (List.range len))
      rw [List.length_map, List.length_range] at h10
      omega
    simp only [if_true] at hmm
    subst hmm
    refine (adds_walk a0 a1 a2 _ len (strAt W a) W w0 hlen (.inr ⟨a, m, rfl, fun i hi => ?_⟩)).mono fun e W' ⟨he, hb⟩ => ?_
    · obtain ⟨h1, h2⟩ := hel i (by omega)
      obtain ⟨h3, h4⟩ := strAt_of h1 h2
      refine ⟨?_, h3, h4⟩
      have := World.cell?_lt h3
      unfold Addr.add at this
      split at this <;> exact this
    · subst he
      exact ⟨_, rfl, tail W' hb⟩
theorem adds_holds : Rows.AddsUptoSaid :=
  OpenClaim.holds_of_cond 7 Tryz.f7 rfl rfl rfl rfl rfl rfl rfl ⟨rfl, rfl, rfl, rfl, rfl⟩ rfl rfl rfl rfl rfl (by kernel_rfl) Tryz.func7 (by kernel_rfl)
    (of_decide_eq_true (by kernel_rfl)) (by unfold Func.isWrapper; first | (rw [if_pos (by decide +kernel)]; kernel_rfl) | (rw [if_neg (by decide +kernel)]; exact ⟨rfl, rfl⟩))
    (fun os started H enc _ F => by rw [OpenClaim.pre_eq_preRow]; exact adds_lifted os started H enc F)
end Go.Proofs.YtcoofnhdbejnpaaGreatDoor

/-
  For every text of raw bytes, both choices of by and top and every list of raw bytes, all together of bulk at most 1048576: paneskeep.Adds returns true, and its arguments read afterwards as before. No condition beyond the bulk and the tie: the three tables of math/bits and internal/strconv that the road names are tied to the text of the program.
-/
namespace Go.Proofs.YtcoofnhdbejnpaaGreatDoor
open Go
theorem adds_card_holds : Rows.AddsUptoCardSaid :=
  Claim7.holds_tied_plain_at .later [] [.data, .data, .data] true (true, "f2733e87251a474c41742e927a9d7f8a24398deaa213218e7e6105b0248c191c") true
    adds_holds (fun _ h => by cases h) (by kernel_rfl) (fun _ h => by cases h) addsUpto_row_tie rfl ⟨rfl, rfl⟩ (by kernel_rfl) rfl
    (fun f fn hf hfn => by
      obtain rfl : f = 7 := Option.some.inj ((show Tryz.prog.funcNamed Tryz.f7.name = some 7 by kernel_rfl).symm.trans hf) |>.symm
      obtain rfl : fn = Tryz.f7 := (Option.some.inj (Tryz.func7.symm.trans hfn)).symm
      exact ⟨by kernel_rfl, fun j t ht => by
        rw [Tryz.params7] at ht
        have hm : t ∈ [9, 4, 4, 58] := by simpa using Array.mem_of_getElem? ht
        have hall : ([9, 4, 4, 58].all fun u => !Tryz.prog.wantsStandIn u) = true := by kernel_rfl
        exact (show Tryz.prog.wantsStandIn t = false by simpa using List.all_eq_true.1 hall t hm)⟩)
    (by kernel_rfl)
end Go.Proofs.YtcoofnhdbejnpaaGreatDoor

