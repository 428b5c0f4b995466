/- Package paneskeep: Topped answers true. -/
import Derived.Test.YtcoofnhdbejnpaaGreatDoorG43
import Derived.Test.YtcoofnhdbejnpaaGreatDoorG45
import Derived.Test.YtcoofnhdbejnpaaGreatDoorG48
import Derived.Test.YtcoofnhdbejnpaaGreatDoorRows
import Derived.ProofKit
import Derived.LaidMore
import Derived.OpenShut
import Derived.ShutString
import Derived.Stop.Joined
import Derived.Deep.Slices
import Derived.WideKeyArgs
import Derived.Test.YtcoofnhdbejnpaaGreatDoorG42
import Derived.Test.YtcoofnhdbejnpaaGreatDoorG46
import Derived.Test.YtcoofnhdbejnpaaGreatDoorCards
import Derived.Test.YtcoofnhdbejnpaaGreatDoorTie
import Derived.SevenTiedAt
namespace Go.Proofs.YtcoofnhdbejnpaaGreatDoor
open Go.RowKit
theorem cat_num (l : List UInt8) : ((⟨l.toArray⟩ : ByteArray) ++ ⟨#[44, 32, 110, 117, 109, 98, 101, 114]⟩).data.toList = l ++ Pk.numW := by simp [Pk.numW]
theorem dig_one : ∀ m : Fin 10, ((⟨#[48, 49, 50, 51, 52, 53, 54, 55, 56, 57]⟩ : ByteArray).extract (m : Nat) ((m : Nat) + 1)).data.toList = Pq.numTxt ((m : Nat) : Int) := by decide +kernel
theorem dig_two (a : Nat) (h : a < 10) : ((⟨#[48, 49, 50, 51, 52, 53, 54, 55, 56, 57]⟩ : ByteArray).extract a (a + 1)).data.toList = Pq.numTxt (a : Int) := dig_one ⟨a, h⟩
theorem cat_numSize (l : List UInt8) (h : l.length ≤ 1000) : ((⟨l.toArray⟩ : ByteArray) ++ ⟨#[44, 32, 110, 117, 109, 98, 101, 114]⟩).size ≤ maxLen := by
  rw [← size_of_list, cat_num]
  unfold maxLen Pk.numW
  rw [List.length_append]
  simp only [List.length_cons, List.length_nil]
  omega
theorem dig_size (a : Nat) (h : a < 10) : ((⟨#[48, 49, 50, 51, 52, 53, 54, 55, 56, 57]⟩ : ByteArray).extract a (a + 1)).size = 1 := by
  rw [← size_of_list, dig_two a h]
  unfold Pq.numTxt
  rw [if_pos (by omega)]
  rfl
theorem cat_list (a b : ByteArray) : (a ++ b).data.toList = a.data.toList ++ b.data.toList := by simp
theorem cat_len (a b : ByteArray) : (a ++ b).size = a.size + b.size := by simp
theorem want_take (n : Nat) (a b : Int) (l : List Pv.Out) (k : Nat) (h : k < l.length) : Pk.wantF n a b (l.take (k + 1)) = Pk.wantF n a b (l.take k) ++ (if Pk.inTop n a b l[k].2.1 = true then [l[k]] else []) := by
  unfold Pk.wantF
  rw [List.take_succ_eq_append_getElem h, List.filter_append]
  congr 1
  by_cases e : Pk.inTop n a b l[k].2.1 = true
  · simp [e]
  · simp [e]
theorem totO_take (l : List Pv.Out) (k : Nat) (h : k < l.length) : Pk.totO (l.take (k + 1)) = Pk.totO (l.take k) + l[k].2.2 := by
  rw [List.take_succ_eq_append_getElem h, Pk.totO_app]
  simp [Pk.totO]
theorem totO_bd : ∀ (l : List Pv.Out), (∀ x ∈ l, -320000 ≤ x.2.2 ∧ x.2.2 ≤ 320000) → -(320000 * (l.length : Int)) ≤ Pk.totO l ∧ Pk.totO l ≤ 320000 * (l.length : Int)
  | [], _ => by simp [Pk.totO]
  | o :: l, h => by
    have ih := totO_bd l (fun x hx => h x (by simp [hx]))
    have ho := h o (by simp)
    rw [Pk.totO_cons, List.length_cons]
    omega
theorem numO_eq {n : Nat} {vs : List Pv.Val} (h : n < vs.length) : Pk.numO n vs = vs[n].getD 0 := by simp [Pk.numO, h]
/-- two views of one table, the counts that say the same -/
def UMT (N : Nat) (w wr : World) (bc gx gy : Nat) (Q Q2 : Pv.Qry) : Prop := ∃ cs all t, UM2 N w wr bc gx gy Q cs all t Q2 t
set_option maxRecDepth 100000 in
set_option maxHeartbeats 2000000 in
theorem topped_walk (s : ByteArray) (b0 : Bool) (a0 a1 : Int) (vs : Value) (len : Nat) (S : Nat → ByteArray) (w : World) (hs : s.size ≤ maxLen) (hl : len ≤ 1000000000000000) (ha1 : -9223372036854775808 ≤ a0) (ha2 : a0 ≤ 9223372036854775807) (hb1 : -9223372036854775808 ≤ a1) (hb2 : a1 ≤ 9223372036854775807)
    (hv : (vs = .slice none 0 0 ∧ len = 0) ∨ ∃ a cap, vs = .slice (some a) len cap ∧ ∀ i, i < len → a.block < w.heap.size ∧ w.cell? (a.add i) = some (.string (S i)) ∧ (S i).size ≤ maxLen) :
    Calls Tryz.prog 11 #[.string s, .bool b0, .int .i64 a0, .int .i64 a1, vs] w fun e w' => e = .returned (.bool true) ∧ Below w.heap.size w w' := by
  obtain ⟨i0, hi, hz0, hz1, hz2⟩ := info_parts infoOut
  have HA := hide (Pk.reads_full s.data.toList b0 false)
  obtain ⟨xv, cv, rfl⟩ : ∃ x c, vs = .slice x len c := by
    rcases hv with ⟨h1, h2⟩ | ⟨a, c, h1, _⟩
    · exact ⟨none, 0, by rw [h1, h2]⟩
    · exact ⟨_, _, h1⟩
  have HV := hide hv
  clear hv
  go_enter Tryz.func11, Tryz.ntmps11
  go_wp2_with fail
  refine (kpick_any a0 10 w ha1 ha2 (by omega) (by omega)).mono ?_
  rintro e wp1 ⟨⟨a, hap, hap2, rfl⟩, hw5⟩
  obtain rfl := hw5.symm
  clear hw5
  obtain ⟨an, rfl⟩ : ∃ n : Nat, a = n := ⟨a.toNat, by omega⟩
  go_wp2_with fail
  refine (kpick_any a1 10 w hb1 hb2 (by omega) (by omega)).mono ?_
  rintro e wp2 ⟨⟨b, hbp, hbp2, rfl⟩, hw5⟩
  obtain rfl := hw5.symm
  clear hw5
  obtain ⟨bn, rfl⟩ : ∃ n : Nat, b = n := ⟨b.toNat, by omega⟩
  have han : an < 10 := by omega
  have hbn : bn < 10 := by omega
  go_wp2_with fail
  refine (query_any s b0 false _ hs).mono ?_
  rintro e w1 ⟨rfl, b1⟩
  generalize Pk.queryS s.data.toList b0 false = x at *
  obtain ⟨q, ⟨hq, _⟩, hpl, _, htn, _, _, hl261⟩ := HA.out
  have ht : q.top = none := by simpa using htn
  have hl2 : x.plain.length ≤ 261 := by
    have h9 : Pk.Ln 261 x := by simpa using hl261
    exact h9.2
  have hf : Pk.fullOf q = true := by unfold Pk.fullOf; rw [ht]
  rw [hf] at hpl
  obtain ⟨pre, post, hsp, hww, hsc⟩ := Pk.show_split hq ht
  have HSP : Hid (x.plain = pre ++ ([115, 104, 111, 119] ++ post)) := hpl.trans hsp
  have HWW := hide hww
  have HSC := hide hsc
  have HQ := hide hq
  have HT := hide ht
  have HPL := hide hpl
  have B1 := hide b1
  have l2 : x.plain.length ≤ 261 := hl2
  clear b1 hq ht hl2 hf hpl hsp hww hsc htn hl261 HA
  go_upto_region 4 with fail
  have D2 := hide (heap_alloc_new w1 (.cells #[.string ⟨x.raw.toArray⟩, .string ⟨x.plain.toArray⟩] 60))
  have B2 := hide (B1.out.alloc B1.out.size (.cells #[.string ⟨x.raw.toArray⟩, .string ⟨x.plain.toArray⟩] 60))
  generalize w1.alloc (.cells #[.string ⟨x.raw.toArray⟩, .string ⟨x.plain.toArray⟩] 60) = w2 at *
  generalize w1.heap.size = bx at *
  have c0 : w2.cell? ⟨bx, 1, none⟩ = some (.string ⟨x.plain.toArray⟩) := cell_of_heap D2.out 1
  go_wp2_with fail
  refine (values_any (s := ⟨x.plain.toArray⟩) (pre := pre) (post := post) (by simpa using HSP.out) HWW.out (by show x.plain.toArray.size ≤ 300; simp; omega) w2).mono ?_
  rintro e w2' ⟨rfl, hw5⟩
  obtain rfl := hw5.symm
  clear hw5
  rw [HSC.out]
  simp only []
  have hfl := HQ.out.fl
  by_cases hn4 : q.funcs.length = 4
  · have hn4' : ((q.funcs.length : Int) == 4) = true := by rw [hn4]; rfl
    go_wp2
    go_ret
    exact ⟨rfl, B2.out⟩
  · have hn4' : ((q.funcs.length : Int) == 4) = false := by rw [beq_eq_false_iff_ne]; omega
    obtain ⟨⟨hr1, n1, he1⟩, hTop⟩ := Pk.topped_read HQ.out HT.out (by omega) HPL.out l2
    obtain ⟨hr2, n2, he2⟩ := hTop an bn han hbn
    have HR1 := hide hr1
    have HE1 := hide he1
    have HR2 := hide hr2
    have HE2 := hide he2
    have HG1 := hide (Pk.astN_good HQ.out (by omega))
    have HG2 := hide (Pk.astT_good HQ.out (by omega) (a := an) (b := bn) (by omega) (by omega))
    have HF : Hid (q.funcs.length = (Pk.qryOf q).fs.length) := rfl
    have hn3 : q.funcs.length ≤ 3 := by omega
    clear hr1 he1 hTop hr2 he2 HSP HWW HSC HPL hfl
    go_wp2_with fail
    generalize hsb : (⟨x.plain.toArray⟩ : ByteArray) ++ ⟨#[44, 32, 110, 117, 109, 98, 101, 114]⟩ = sb at *
    have hb1' : sb.size ≤ maxLen := by rw [← hsb]; exact cat_numSize _ (by omega)
    have hb2' : Pq.readE sb.data.toList = 0 := by rw [← hsb, cat_num]; exact HR1.out
    have hb3' : Pq.endPS sb.data.toList = Pk.astPS (Pk.astN q) n1 true := by rw [← hsb, cat_num]; exact HE1.out
    have HSB := hide hsb
    clear hsb
    refine (begin_any (s := sb) (n := n1) hb1' HG1.out hb2' hb3' w2).mono ?_
    rintro e w3 ⟨b3, g, vb, vk, vf, has, tp, fr, rfl, hg, hx⟩
    have B3 := hide (B2.out.trans (b3.mono B2.out.size))
    have hg' : w.heap.size ≤ g := Nat.le_trans B2.out.size hg
    have X3 : Hid (XV w3 g vb vk vf has tp fr (.slice none 0 0) (Pk.qN (Pk.qryOf q)) []) := hx
    have hgl : g < w3.heap.size := (Array.getElem?_eq_some_iff.1 hx.blk).1
    have hbx0 : bx < w2.heap.size := (Array.getElem?_eq_some_iff.1 D2.out).1
    have c1 : w3.cell? ⟨bx, 1, none⟩ = some (.string ⟨x.plain.toArray⟩) := (b3.cell (p := ⟨bx, 1, none⟩) hbx0).trans c0
    have hbxl : bx < w3.heap.size := Nat.lt_of_lt_of_le hbx0 b3.size
    clear b3 hx c0 D2 hg HR1 HE1 HG1 hb1' hb2' hb3'
    go_upto_region 12 with fail
    have HX : ∀ w', Hid (Below w3.heap.size w3 w' → (fun w' => w'.cell? ⟨bx, 1, none⟩ = some (.string ⟨x.plain.toArray⟩) ∧ Hid (Below w3.heap.size w3 w')) w') := fun w' hb => ⟨(hb.cell (p := ⟨bx, 1, none⟩) hbxl).trans c1, hb⟩
    obtain ⟨d1, hd1⟩ : ∃ d, (⟨#[48, 49, 50, 51, 52, 53, 54, 55, 56, 57]⟩ : ByteArray).extract an (an + 1) = d := ⟨_, rfl⟩
    obtain ⟨d2, hd2⟩ : ∃ d, (⟨#[48, 49, 50, 51, 52, 53, 54, 55, 56, 57]⟩ : ByteArray).extract bn (bn + 1) = d := ⟨_, rfl⟩
    have hs1 : d1.size = 1 := by rw [← hd1]; exact dig_size an han
    have hs2 : d2.size = 1 := by rw [← hd2]; exact dig_size bn hbn
    obtain ⟨sA, hsA⟩ : ∃ d, sb ++ (⟨#[32, 116, 111, 112, 32]⟩ : ByteArray) = d := ⟨_, rfl⟩
    obtain ⟨sB, hsB⟩ : ∃ d, sA ++ d1 = d := ⟨_, rfl⟩
    obtain ⟨sC, hsC⟩ : ∃ d, sB ++ (⟨#[32, 102, 114, 111, 109, 32]⟩ : ByteArray) = d := ⟨_, rfl⟩
    obtain ⟨sE, hsE⟩ : ∃ d, sC ++ d2 = d := ⟨_, rfl⟩
    have z0 : sb.size ≤ 1000 := by
      rw [← HSB.out, ← size_of_list, cat_num]
      unfold Pk.numW
      rw [List.length_append]
      simp only [List.length_cons, List.length_nil]
      omega
    have zA : sA.size = sb.size + 5 := by rw [← hsA, cat_len]; rfl
    have zB : sB.size = sA.size + 1 := by rw [← hsB, cat_len, hs1]
    have zC : sC.size = sB.size + 6 := by rw [← hsC, cat_len]; rfl
    have zE : sE.size = sC.size + 1 := by rw [← hsE, cat_len, hs2]
    have y1 : ¬ 9223372036854775807 < sb.size + 5 := by omega
    have y1b : sb.size ≤ 9223372036854775802 := by omega
    have y2 : ¬ 9223372036854775807 < sA.size + 1 := by omega
    have y2b : sA.size ≤ 9223372036854775806 := by omega
    have y3 : ¬ 9223372036854775807 < sB.size + 6 := by omega
    have y3b : sB.size ≤ 9223372036854775801 := by omega
    have y4 : ¬ 9223372036854775807 < sC.size + 1 := by omega
    have y4b : sC.size ≤ 9223372036854775806 := by omega
    have hEm : sE.size ≤ maxLen := by unfold maxLen; omega
    have hEl : sE.data.toList = x.plain ++ Pk.numW ++ [32, 116, 111, 112, 32] ++ Pq.numTxt an ++ [32, 102, 114, 111, 109, 32] ++ Pq.numTxt bn := by
      rw [← hsE, cat_list, ← hsC, cat_list, ← hsB, cat_list, ← hsA, cat_list, ← hd1, ← hd2, dig_two an han, dig_two bn hbn, ← HSB.out, cat_num]
    have HCS : Hid (∀ W : World, Calls Tryz.prog 16 #[.string sE] W fun e w' => BegPost W (Pk.astT q an bn) e w') := fun W => begin_any (s := sE) (n := n2) hEm HG2.out (by rw [hEl]; exact HR2.out) (by rw [hEl]; exact HE2.out) W
    have q1 : (0 : Int) ≤ (an : Int) := by omega
    have q2 : (an : Int) ≤ (an : Int) + 1 := by omega
    have q3 : (an : Int) + 1 ≤ 10 := by omega
    have q4 : IntKind.i64.wrap ((an : Int) + 1) = (an : Int) + 1 := wrap_id2 (by omega) (by omega)
    have q5 : ((an : Int) + 1).toNat = an + 1 := by omega
    have r1 : (0 : Int) ≤ (bn : Int) := by omega
    have r2 : (bn : Int) ≤ (bn : Int) + 1 := by omega
    have r3 : (bn : Int) + 1 ≤ 10 := by omega
    have r4 : IntKind.i64.wrap ((bn : Int) + 1) = (bn : Int) + 1 := wrap_id2 (by omega) (by omega)
    have r5 : ((bn : Int) + 1).toNat = bn + 1 := by omega
    clear hEm hEl z0 zA zB zC zE HR2 HE2
    go_region_held3 (fun w' => w'.cell? ⟨bx, 1, none⟩ = some (.string ⟨x.plain.toArray⟩) ∧ Hid (Below w3.heap.size w3 w')) (first | exact (HX _).out (below_drew0 _) | (refine (HX _).out ?_; go_split_ands; exact Below.trans (Hid.out (by assumption)) (Below.mono (by assumption) (Below.size (Hid.out (by assumption)))))) ((go_at_call 16; refine (HCS.out _).mono ?_; rintro e w4 ⟨b4, g2, vb2, vk2, vf2, has2, tp2, fr2, rfl, hg2, hx2⟩))
    rename_i hH
    replace b4 : Below w3.heap.size w3 w4 := hH.2.out
    clear hH HCS HX hd1 hd2 hs1 hs2 hsA hsB hsC hsE y1 y1b y2 y2b y3 y3b y4 y4b q1 q2 q3 q4 q5 r1 r2 r3 r4 r5 c1 HSB
    have B4 := hide (B3.out.trans (b4.mono B3.out.size))
    have X4 := hide (X3.out.below b4)
    have Y4 : Hid (XV w4 g2 vb2 vk2 vf2 has2 tp2 fr2 (.slice none 0 0) (Pk.qT (Pk.qryOf q) an bn) []) := hx2
    have hg3 : w3.heap.size ≤ g2 := hg2
    have hgg : Hid (g2 ≠ g) := by show _ ≠ _; omega
    have hg2' : Hid (w.heap.size ≤ g2) := Nat.le_trans B3.out.size hg3
    clear b4 hx2 X3 hg2 hg3 HG2 HQ HT B3 B2 B1
    go_upto_region 16 with fail
    have U4 := hide (UM2.start B4.out hg' X4.out hgg.out Y4.out rfl)
    generalize w4.alloc (.cells #[.slice none 0 0, .slice none 0 0, .int .i64 0] 66) = w5 at *
    generalize w4.heap.size = bc at *
    generalize Pk.qryOf q = Q at *
    have U5 : Hid (UMT w.heap.size w w5 bc g g2 (Pk.qN Q) (Pk.qT Q an bn)) := ⟨_, _, _, U4.out⟩
    clear U4 X4 Y4 hg' hgl B4
    generalize q.funcs.length = n at *
    go_wp2
    go_loopw [19] (fun i wr => ∃ k : Nat, k ≤ len ∧ i = .int .i64 k ∧ Hid (UMT w.heap.size w wr bc g g2 (Pk.qN Q) (Pk.qT Q an bn))) (fun i _ => len - (intOf i).toNat)
    case atStart => exact ⟨0, by omega, rfl, U5⟩
    case round =>
      obtain ⟨k, hk, rfl, HU⟩ := hrel
      by_cases hlt : k < len
      · have hlt' : (k : Int) < (len : Int) := by omega
        obtain ⟨cs, all, t, hu⟩ := HU.out
        have U1 := hide hu
        have HBO := hide (Pk.batch_ok (S k).data.toList hu.1.2.2.2.2.1 hu.1.2.2.2.2.2.1)
        clear hu HU U5
        obtain ⟨a, cap, ea, hcell⟩ : ∃ a cap, Value.slice xv len cv = .slice (some a) len cap ∧ ∀ i, i < len → a.block < w.heap.size ∧ w.cell? (a.add i) = some (.string (S i)) ∧ (S i).size ≤ maxLen := by
          rcases HV.out with ⟨_, h2⟩ | h
          · omega
          · exact h
        cases ea
        obtain ⟨hal, hc1, hsz⟩ := hcell k hlt
        have d0 : wr.cell? (a.add k) = some (.string (S k)) := (U1.out.1.1.cell (p := a.add k) (by unfold Addr.add; split <;> exact hal)).trans hc1
        clear hcell hc1
        go_wp2_with fail
        refine (U1.out.batch hsz).mono ?_
        rintro e w6 ⟨x6, n6, c6, rfl, ub, rc, kp⟩
        have UB6 := hide ub
        have RC6 := hide rc
        clear ub rc kp d0 U1
        go_wp2_with fail
        refine (UB6.out.apply RC6.out).mono ?_
        rintro e w7 ⟨x7, n7, c7, rfl, um, _, kp⟩
        have U7 := hide um
        have RC7 := hide (kp.c _ _ RC6.out)
        clear um kp UB6 RC6
        go_wp2_with fail
        refine (U7.out.other hg2'.out RC7.out HBO.out.1 (by have := HBO.out.2.2.2; omega)).mono ?_
        rintro e w8 ⟨x8, n8, c8, rfl, um, _, _⟩
        have U8 := hide um
        clear um U7 RC7 HBO
        go_wp2
        go_roundw
        case rel => exact ⟨k + 1, by omega, by go_num, _, _, _, U8.out⟩
        case measure => simp [intOf]; omega
      · have hlt' : ¬ (k : Int) < (len : Int) := by omega
        obtain ⟨cs, all, t, hu⟩ := HU.out
        have HI := hide hu.1.2.2.2.2.1
        have HSM := hide hu.1.2.2.2.2.2.1
        obtain ⟨vr1, vn1, vb1, vk1, vf1, has1, tp1, fr1, vt1, hcm, hxv⟩ := hu.1.2.2.2.2.2.2
        obtain ⟨ub1, uk1, uf1, hasu, tpu, fru, ut1, hyv⟩ := hu.2.2
        have B10 := hide hu.1.1
        have X10 := hide hxv
        have Y10 := hide hyv
        have K10 := hide hcm.blk
        have HTT : Hid (Pv.totalF t = all) := (Pk.total_eq HSM.out).trans HI.out.tot
        have HWT := hide (Pk.topped_rows (q := Q) (a := an) (b := bn) (by omega) hxv.inv)
        have HTO : Hid (Pk.totO (Pv.rowsF (Pk.qN Q) t) = all) := (Pk.rows_total (q := Pk.qN Q) (by show (-1 : Int) < 0; omega) hxv.inv).trans HTT.out
        have SMR := hide (rows_small hxv.q hxv.inv)
        have HLV : Hid (∀ x ∈ Pv.rowsF (Pk.qN Q) t, x.2.1.length = n + 1) := fun x hx => by
          have := ((Pk.rows_spec (q := Pk.qN Q) hxv.inv).2.1 x hx).2
          rw [this, HF.out]
          simp [Pk.qN]
        clear hu HU U5 hcm hxv hyv
        generalize wr = wa at *
        go_wp2_with fail
        refine (xrows_rd X10.out).mono ?_
        rintro e w11 ⟨b11, x11, n11, c11, rfl, r11⟩
        have B11 := hide (B10.out.trans (b11.mono B10.out.size))
        have Y11 := hide (Y10.out.below b11)
        have K11 : Hid (w11.heap[bc]? = some (.cells #[vr1, vn1, .int .i64 all] 66 (0, 0))) := (b11.block bc (Array.getElem?_eq_some_iff.1 K10.out).1).trans K10.out
        have L11 := hide r11
        clear b11 r11 X10 Y10 K10 B10
        have HF2 : Hid (Q.fs.length = n) := HF.out.symm
        rw [HF2.out] at HWT
        generalize Pv.rowsF (Pk.qN Q) t = R at *
        obtain ⟨xq, cq, eq'⟩ := L11.out.sl
        cases eq'
        have hRl := SMR.out.1
        have HAW : Hid (∀ W : World, Below w11.heap.size w11 W → RdO W (.slice x11 R.length c11) R) := fun W hW => L11.out.below hW
        go_wp2
        go_loopw [27, 29] (fun o i wx => ∃ k : Nat, k ≤ R.length ∧ i = .int .i64 k ∧ OwnO wx w11.heap.size o (Pk.wantF n an bn (R.take k)) ∧ Below w11.heap.size w11 wx) (fun _ i _ => R.length - (intOf i).toNat)
        case atStart => exact ⟨0, by omega, rfl, OwnO.nil _ _, Below.refl _ _⟩
        case round =>
          obtain ⟨k, hk, rfl, hown, hb⟩ := hrel
          have O1 := hide hown
          have B1 := hide hb
          clear hown hb
          by_cases hkl : k < R.length
          · have hkl' : (k : Int) < (R.length : Int) := by omega
            obtain ⟨g6, off6, c6', e6, hc6⟩ := L11.out.form1 (by omega)
            cases e6
            obtain ⟨xk, ck', hrd, k0, k1, k2, k3, k4⟩ := (HAW.out wr B1.out).cell k hkl
            have hvl := HLV.out R[k] (List.getElem_mem hkl)
            obtain ⟨g7, off7, c7', e7, hc7⟩ := RdG.form1 hrd (by omega)
            cases e7
            obtain ⟨_, v1⟩ := RdV.cell hrd n (by omega)
            rw [← numO_eq (by omega)] at v1
            have HRD : Hid (RdV wr (.slice (some ⟨g7, off7, none⟩) (n + 1) ck') R[k].2.1) := by
              show RdV _ _ _
              rw [← hvl]
              exact hrd
            clear hrd
            have HFT := hide (want_take n an bn R k hkl)
            have hfl : (Pk.wantF n an bn (R.take k)).length ≤ 1000000 := by
              have := List.length_filter_le (fun o : Pv.Out => Pk.inTop n an bn o.2.1) (R.take k)
              rw [List.length_take] at this
              unfold Pk.wantF
              omega
            have HIT : Hid (Pk.inTop n an bn R[k].2.1 = (decide ((bn : Int) < Pk.numO n R[k].2.1) && decide (Pk.numO n R[k].2.1 ≤ (an : Int) + bn))) := rfl
            have hnl : (n : Int) < (R[k].2.1.length : Int) := by omega
            have hne : ((R[k].2.1.length : Int) != (n : Int) + 1) = false := by simp [hvl]
            generalize Pk.wantF n an bn (R.take k) = L at *
            have skip : Pk.inTop n an bn R[k].2.1 = false → Hid (Pk.wantF n an bn (R.take (k + 1)) = L) := fun hq => by
              have := HFT.out
              rw [hq, if_neg (by simp), List.append_nil] at this
              exact this
            by_cases hu1 : (bn : Int) < Pk.numO n R[k].2.1
            · by_cases hu2 : Pk.numO n R[k].2.1 ≤ (an : Int) + bn
              · have hin : Pk.inTop n an bn R[k].2.1 = true := by rw [HIT.out]; simp [hu1, hu2]
                rw [hin, if_pos rfl] at HFT
                obtain ⟨vz, hvz, hoz⟩ := O1.out
                have HVZ := hide hvz
                have HOZ := hide hoz
                clear hvz hoz O1 skip HIT
                have hs1 := B1.out.size
                generalize Pk.numO n R[k].2.1 = kk at *
                go_wp2_with (at_builtin; refine wpList_append_own_at _ rfl (.tmp 148) (.tmp 153) 42 rfl w11.heap.size 55 i0 _ 5 56 Tryz.underlying42 hi hz0 hz1 hz2 rfl (by decide) _ L.length (routs L vz) rfl (HOZ.out.alloc _) _ 1 1 (oc R[k] (.slice (some ⟨g7, off7, none⟩) (n + 1) ck')) rfl rfl (World.news_of_block (heap_alloc_new _ _)) (oc_one _ _ _ _) (by unfold maxLen; omega) (by omega) (by simp; omega) ?_; intro v8 w9 hown8 hgrow8 hnil8 hat8; have b8 : Below w11.heap.size w11 w9 := (B1.out.alloc hs1 _).grown hgrow8 (by simp; omega) (fun k hk => (HOZ.out.lt k hk).1); have O8 := hide (OwnO.app (o := R[k]) (HVZ.out.below ((Below.refl _ _).alloc (Nat.le_refl _) _)) (HRD.out.below ((Below.refl _ _).alloc (Nat.le_refl _) _)) (HOZ.out.alloc _) hgrow8 hown8); clear hown8 hgrow8 hnil8 hat8)
                go_roundw
                case rel => exact ⟨k + 1, by omega, by go_num, by rw [HFT.out]; exact O8.out, b8⟩
                case measure => simp [intOf]; omega
              · have hin : Pk.inTop n an bn R[k].2.1 = false := by rw [HIT.out]; simp [hu2]
                have HSK := skip hin
                clear skip HIT
                generalize Pk.numO n R[k].2.1 = kk at *
                go_wp2
                go_roundw
                case rel => exact ⟨k + 1, by omega, by go_num, by rw [HSK.out]; exact O1.out, B1.out⟩
                case measure => simp [intOf]; omega
            · have hin : Pk.inTop n an bn R[k].2.1 = false := by rw [HIT.out]; simp [hu1]
              have HSK := skip hin
              clear skip HIT
              generalize Pk.numO n R[k].2.1 = kk at *
              go_wp2
              go_roundw
              case rel => exact ⟨k + 1, by omega, by go_num, by rw [HSK.out]; exact O1.out, B1.out⟩
              case measure => simp [intOf]; omega
          · have hkl' : ¬ (k : Int) < (R.length : Int) := by omega
            rw [List.take_of_length_le (by omega)] at O1
            obtain ⟨x9, c9, rfl⟩ := O1.out.rd.sl
            generalize wr = wb at *
            have W12 := hide O1.out.rd
            have L12 := hide (L11.out.below B1.out)
            have Y12 := hide (Y11.out.below B1.out)
            have K12 : Hid (wb.heap[bc]? = some (.cells #[vr1, vn1, .int .i64 all] 66 (0, 0))) := (B1.out.block bc (Array.getElem?_eq_some_iff.1 K11.out).1).trans K11.out
            have B12 := hide (B11.out.trans (B1.out.mono B11.out.size))
            clear O1 B1 L11 Y11 K11 B11 HAW
            go_wp2_with fail
            refine (xrows_rd Y12.out).mono ?_
            rintro e w13 ⟨b13, x13, n13, c13, rfl, r13⟩
            rw [HWT.out] at r13
            have B13 := hide (B12.out.trans (b13.mono B12.out.size))
            have K13 : Hid (w13.heap[bc]? = some (.cells #[vr1, vn1, .int .i64 all] 66 (0, 0))) := (b13.block bc (Array.getElem?_eq_some_iff.1 K12.out).1).trans K12.out
            have L13 := hide (L12.out.below b13)
            have W13 := hide (W12.out.below b13)
            have M13 := hide r13
            clear b13 r13 Y12 K12 B12 L12 W12
            have HTB := hide (fun k => totO_bd (R.take k) (fun x hx => (SMR.out.2 x (List.mem_of_mem_take hx)).2))
            go_wp2
            go_loop [32, 33] (fun v i => ∃ k : Nat, k ≤ R.length ∧ i = .int .i64 k ∧ v = .int .i64 (Pk.totO (R.take k))) (fun _ i => R.length - (intOf i).toNat)
            case atStart => exact ⟨0, by omega, rfl, rfl⟩
            case round =>
              obtain ⟨k, hk, rfl, rfl⟩ := hrel
              by_cases hkl : k < R.length
              · have hkl' : (k : Int) < (R.length : Int) := by omega
                obtain ⟨g6, off6, c6', e6, hc6⟩ := L13.out.form1 (by omega)
                cases e6
                obtain ⟨xk, ck', _, k0, k1, k2, k3, k4⟩ := L13.out.cell k hkl
                have HT2 := hide (totO_take R k hkl)
                have hbd := HTB.out k
                rw [List.length_take] at hbd
                obtain ⟨_, hr1, hr2⟩ := SMR.out.2 R[k] (List.getElem_mem hkl)
                have t1 : -200000000000 ≤ Pk.totO (R.take k) := by omega
                have t2 : Pk.totO (R.take k) ≤ 200000000000 := by omega
                clear hbd
                generalize Pk.totO (R.take k) = st at *
                generalize R[k].2.2 = rn at *
                go_wp2
                go_round
                case rel => exact ⟨k + 1, by omega, by go_num, by rw [HT2.out]⟩
                case measure => simp [intOf]; omega
              · have hkl' : ¬ (k : Int) < (R.length : Int) := by omega
                have HE : Hid (Pk.totO (R.take k) = all) := by show _ = _; rw [List.take_of_length_le (by omega)]; exact HTO.out
                rw [HE.out]
                have SMB : Hid (∀ x ∈ Pk.wantF n an bn R, x.2.1.length ≤ 1000 ∧ IntKind.i64.wrap (1 * x.2.2) = 1 * x.2.2) := fun x hx => by
                  obtain ⟨h1, h2, h3⟩ := SMR.out.2 x (List.mem_filter.1 hx).1
                  exact ⟨h1, wrapOne h2 h3⟩
                have hwl : (Pk.wantF n an bn R).length ≤ R.length := List.length_filter_le _ _
                have MT : Hid (RdO w13 (.slice x13 n13 c13) (timesO 1 (Pk.wantF n an bn R))) := by rw [timesO_one]; exact M13
                go_wp2_with fail
                refine (ksameOuts_eq (sg := 1) MT.out W13.out (by omega) SMB.out).mono ?_
                rintro e w14 ⟨rfl, b14⟩
                have B14 := hide (B13.out.trans (b14.mono B13.out.size))
                have K14 : Hid (w14.heap[bc]? = some (.cells #[vr1, vn1, .int .i64 all] 66 (0, 0))) := (b14.block bc (Array.getElem?_eq_some_iff.1 K13.out).1).trans K13.out
                have z2 : w14.cell? ⟨bc, 2, none⟩ = some (.int .i64 all) := cell_of_heap K14.out 2
                go_wp2
                go_ret
                exact ⟨by simp, B14.out⟩
end Go.Proofs.YtcoofnhdbejnpaaGreatDoor

/-
  For every text of raw bytes, both choices of by, all numbers a and b and every list of raw bytes: paneskeep.Topped returns true, and its arguments read afterwards as before. Conditions: the three tables of math/bits and internal/strconv that the road names start as the program's text lays them (the card ties them).
-/
namespace Go.Proofs.YtcoofnhdbejnpaaGreatDoor
open Go.ChangeShapes Go.WideShapes Go.ChangeAt Go.RowKit Go.Deep
open Go.ChangeMaps (open_string shut_string)
theorem topped_door (os : Os) (args : Array Value) : laidMetH Tryz.prog Rows.toppedRow.laid ((World.doorLaid Tryz.prog 100 os).forCall (fun _ _ => 0) ⟨#[], args, []⟩).memory :=
  laidMetH_of_parts3 (fuel := 8) (laidMet_of_run' 8 (by kernel_rfl) (by kernel_rfl)) (by kernel_rfl) (by kernel_rfl)
set_option maxRecDepth 100000 in
set_option maxHeartbeats 1000000 in
theorem topped_lifted (os : Os) (started : os.Started) (H : Type) (enc : TypeId × Value → H) :
    ReturnsInHanded {} Tryz.checked os 11 .any (fun w args => (Rows.toppedSpec.pre enc Tryz.prog Tryz.f11 [] false w args ∧ laidMetH Tryz.prog Rows.toppedRow.laid w) ∧ sizedMet enc Tryz.prog Tryz.f11 (OpenSpec.ofChange Rows.toppedSpec) false w args)
      (Rows.toppedSpec.post enc Tryz.prog Tryz.f11 false true false false) := by
  refine returnsInHanded_of_change_and (C := Tryz.checked) (X := fun w _ => laidMetH Tryz.prog Rows.toppedRow.laid w) (fun _ _ _ hh h => h.of_heap hh) kown started (by kernel_rfl) Tryz.func11
    (ChangeSpec.witness_shaped (enc := enc) (C := Tryz.checked) (os := os) (X := fun w _ => laidMetH Tryz.prog Rows.toppedRow.laid w) false (World.doorLaid Tryz.prog 100 os) #[.string ByteArray.empty, .bool false, .int .i64 0, .int .i64 0, .slice none 0 0] 8 rfl (World.shaped_of_RefB (by kernel_rfl) (by kernel_rfl)) (by kernel_rfl) (by kernel_rfl) (by kernel_rfl) (topped_door os _)) ?_
  intro W base args ds gs before hval0 hW _ hwt0 _ _
  have hwt : (DataW.weightsEach Tryz.prog (Tryz.f11.params.toList ++ Rows.toppedSpec.plain.varTypes Tryz.prog) (ds ++ gs)).all (· ≤ reachBytes) = true := hwt0
  clear hwt0
  have hval : ∀ (j : Nat) t v, Tryz.f11.params[j]? = some t → args[j]? = some v → Value.okWide Tryz.prog W .any base t v := hval0
  have hW' := hW
  obtain ⟨p, q, hA0, hV, rfl, hfz, hnd⟩ := hW
  have hA : DataW.TrodAll enc Tryz.prog W 0 (fun _ => true) true Tryz.f11.params.toList args.toList ds p := hA0
  rw [Tryz.params11] at hA hval hwt
  obtain ⟨v0, vs0, d0, ds0, p0, q0, hargs, rfl, rfl, h0, r0⟩ := trodAll_cons hA
  obtain ⟨v1, vs1, d1, ds1, p1, q1, rfl, rfl, rfl, h1, r1⟩ := trodAll_cons r0
  obtain ⟨v2, vs2, d2, ds2, p2, q2, rfl, rfl, rfl, h2, r2⟩ := trodAll_cons r1
  obtain ⟨v4, vs4, d4, ds4, p4, q4, rfl, rfl, rfl, h4, r4⟩ := trodAll_cons r2
  obtain ⟨v3, vs3, d3, ds3, p3, q3, rfl, rfl, rfl, h3, r3⟩ := trodAll_cons r4
  obtain ⟨rfl, rfl, rfl⟩ := trodAll_nil r3
  obtain rfl : args = #[v0, v1, v2, v4, v3] := by cases args; simp_all
  obtain ⟨rfl, rfl⟩ := trodVars_none hV
  obtain ⟨a0, rfl, rfl, rfl, w0⟩ := open_string Tryz.underlying9 (hval 0 9 v0 rfl rfl) h0
  obtain ⟨a1, rfl, rfl, rfl⟩ := open_bool Tryz.underlying4 (hval 1 4 v1 rfl rfl) h1
  obtain ⟨a2, rfl, rfl, rfl, w2⟩ := open_int Tryz.underlying3 (hval 2 3 v2 rfl rfl) h2
  obtain ⟨a4, rfl, rfl, rfl, w4⟩ := open_int Tryz.underlying3 (hval 3 3 v4 rfl rfl) h4
  have hb2 := int_bd w2
  have hb4 := int_bd w4
  have h3k := h3
  obtain ⟨x3, len, cap, rfl⟩ := okWide_slice Tryz.underlying58 (hval 4 58 v3 rfl rfl)
  obtain ⟨fuel, hf⟩ := h3
  clear hA0 hval0
  simp only [List.append_nil, List.nil_append] at hW'
  have hlt : ∀ x ∈ p3, x.block < W.heap.size := fun x hx => hW'.lt x (by simpa using hx)
  have tail : ∀ W' : World, Below W.heap.size W W' → Rows.toppedSpec.post enc Tryz.checked.prog Tryz.f11 false true false false W #[.string a0, .bool a1, .int .i64 a2, .int .i64 a4, .slice x3 len cap] (.bool true) W' := by
    intro W' hb
    refine ⟨_, _, _, [], [] ++ ([] ++ ([] ++ ([] ++ (p3 ++ [])))), [], hW', trodAll_cons_mk (shut_bool Tryz.underlying4 _) trodAll_mk0, ?_, rfl, hb.frame _, fun h => by cases h⟩
    exact trodAll_cons_mk (shut_string Tryz.underlying9 w0) (trodAll_cons_mk (shut_bool Tryz.underlying4 a1) (trodAll_cons_mk (shut_int Tryz.underlying3 w2) (trodAll_cons_mk (shut_int Tryz.underlying3 w4) (trodAll_cons_mk (WideElems.Trod_stays klaidOut (by kernel_rfl) (of_decide_eq_true (by kernel_rfl)) h3k (fun x hx => hb.same (hlt x hx)) (fun x hx => by simpa using hlt x hx)) trodAll_mk0))))
  rcases open_slice1 Tryz.underlying58 kcellsStr hf with ⟨hcs, hx⟩ | ⟨a, len', cap', m, n, V, D, Pl, hcs, hb, hl, hm, hmm, hx, hel⟩
  · simp [Value.cells] at hcs
    obtain ⟨rfl, rfl, rfl⟩ := hcs
    refine (topped_walk a0 a1 a2 a4 _ 0 (fun _ => ByteArray.empty) W w0 (by omega) hb2.1 hb2.2 hb4.1 hb4.2 (.inl ⟨rfl, rfl⟩)).mono fun e W' ⟨he, hb⟩ => ?_
    subst he
    exact ⟨_, rfl, tail W' hb⟩
  · simp [Value.cells] at hcs
    obtain ⟨rfl, rfl, rfl⟩ := hcs
    have hlen : len ≤ 1000000000000000 := by
      have e : d3 = _ := congrArg Prod.fst hx
      rw [e] at hwt
      simp only [List.cons_append, List.nil_append, List.append_nil, DataW.weightsEach, DataW.weights, Tryz.underlying58, kbytesStr, List.all_cons, List.all_append, Bool.and_eq_true, decide_eq_true_eq] at hwt
      have hr : reachBytes = 140737488351232 := rfl
      simp at hwt
      omega
    simp only [if_true] at hmm
    subst hmm
    refine (topped_walk a0 a1 a2 a4 _ len (strAt W a) W w0 hlen hb2.1 hb2.2 hb4.1 hb4.2 (.inr ⟨a, m, rfl, fun i hi => ?_⟩)).mono fun e W' ⟨he, hb⟩ => ?_
    · obtain ⟨h1, h2⟩ := hel i (by omega)
      obtain ⟨h3, h4⟩ := strAt_of h1 h2
      refine ⟨?_, h3, h4⟩
      have := World.cell?_lt h3
      unfold Addr.add at this
      split at this <;> exact this
    · subst he
      exact ⟨_, rfl, tail W' hb⟩
theorem topped_holds : Rows.ToppedSaid :=
  OpenClaim.holds_of_wide 11 Tryz.f11 rfl rfl rfl rfl rfl rfl rfl ⟨rfl, rfl, rfl, rfl, rfl⟩ rfl rfl rfl rfl rfl (by kernel_rfl) Tryz.func11 (by kernel_rfl)
    (of_decide_eq_true (by kernel_rfl)) (by unfold Func.isWrapper; first | (rw [if_pos (by decide +kernel)]; kernel_rfl) | (rw [if_neg (by decide +kernel)]; exact ⟨rfl, rfl⟩))
    (fun os started H enc _ => topped_lifted os started H enc)
end Go.Proofs.YtcoofnhdbejnpaaGreatDoor

/-
  For every text of raw bytes, both choices of by, all numbers a and b and every list of raw bytes: paneskeep.Topped returns true, and its arguments read afterwards as before. No condition beyond the tie: the three tables of math/bits and internal/strconv that the road names are tied to the text of the program.
-/
namespace Go.Proofs.YtcoofnhdbejnpaaGreatDoor
open Go
theorem topped_card_holds : Rows.ToppedCardSaid :=
  Claim7.holds_tied_plain_at .later [] [.data, .data, .data] true (true, "f2733e87251a474c41742e927a9d7f8a24398deaa213218e7e6105b0248c191c") true
    topped_holds (fun _ h => by cases h) (by kernel_rfl) (fun _ h => by cases h) topped_row_tie rfl ⟨rfl, rfl⟩ (by kernel_rfl) rfl
    (fun f fn hf hfn => by
      obtain rfl : f = 11 := Option.some.inj ((show Tryz.prog.funcNamed Tryz.f11.name = some 11 by kernel_rfl).symm.trans hf) |>.symm
      obtain rfl : fn = Tryz.f11 := (Option.some.inj (Tryz.func11.symm.trans hfn)).symm
      exact ⟨by kernel_rfl, fun j t ht => by
        rw [Tryz.params11] at ht
        have hm : t ∈ [9, 4, 3, 3, 58] := by simpa using Array.mem_of_getElem? ht
        have hall : ([9, 4, 3, 3, 58].all fun u => !Tryz.prog.wantsStandIn u) = true := by kernel_rfl
        exact (show Tryz.prog.wantsStandIn t = false by simpa using List.all_eq_true.1 hall t hm)⟩)
    (by kernel_rfl)
end Go.Proofs.YtcoofnhdbejnpaaGreatDoor

