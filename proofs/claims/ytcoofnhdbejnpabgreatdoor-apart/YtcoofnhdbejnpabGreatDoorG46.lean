/- Package paneskeep: Apart answers true. -/
import Derived.Test.YtcoofnhdbejnpabGreatDoorG41
import Derived.Test.YtcoofnhdbejnpabGreatDoorG45
namespace Go.Proofs.YtcoofnhdbejnpabGreatDoor
open Go.RowKit
theorem wrapOne1 {n : Int} (h1 : -320000 ≤ n) (h2 : n ≤ 320000) : IntKind.i64.wrap (1 * n) = 1 * n := wrap_id2 (by omega) (by omega)
theorem AP.start {w w7 w8 w9 : World} {gv gw gz : Nat} {Q Qz : Pv.Qry} (hb : Below w.heap.size w w7) (hv : w.heap.size ≤ gv) (hw : w.heap.size ≤ gw) (hz : w.heap.size ≤ gz) (h1 : gv ≠ gw) (h2 : gv ≠ gz) (h3 : gw ≠ gz) (xv : XVx w7 gv Q []) (xw : XVx w7 gw Q []) (xz : XVx w7 gz Qz [])
    (h8 : w8 = w7.alloc (.cells #[.slice none 0 0, .slice none 0 0, .int .i64 0] 33)) (h9 : w9 = w8.alloc (.cells #[.slice none 0 0, .slice none 0 0, .int .i64 0] 33)) :
    AP w.heap.size w w9 w7.heap.size w8.heap.size gv gw gz Q Qz (.slice none 0 0) (.slice none 0 0) (.slice none 0 0) (.slice none 0 0) [] 0 [] 0 [] [] [] := by
  subst h8
  subst h9
  have b8 := (Below.refl w7.heap.size w7).alloc (Nat.le_refl _) (.cells #[.slice none 0 0, .slice none 0 0, .int .i64 0] 33)
  have c8 : CM (w7.alloc (.cells #[.slice none 0 0, .slice none 0 0, .int .i64 0] 33)) w7.heap.size w.heap.size (.slice none 0 0) (.slice none 0 0) [] 0 := ⟨heap_alloc_new w7 _, World.ownsRow_nil _ _ _ _, World.ownsRow_nil _ _ _ _⟩
  have hs8 : (w7.alloc (.cells #[.slice none 0 0, .slice none 0 0, .int .i64 0] 33)).heap.size = w7.heap.size + 1 := by simp
  have hB8 : Below w.heap.size w (w7.alloc (.cells #[.slice none 0 0, .slice none 0 0, .int .i64 0] 33)) := hb.alloc hb.size _
  have x8v := xv.below b8
  have x8w := xw.below b8
  have x8z := xz.below b8
  generalize w7.alloc (.cells #[.slice none 0 0, .slice none 0 0, .int .i64 0] 33) = w8 at *
  have b9 := (Below.refl w8.heap.size w8).alloc (Nat.le_refl _) (.cells #[.slice none 0 0, .slice none 0 0, .int .i64 0] 33)
  refine ⟨⟨Nat.le_refl _, hb.size, hB8.size, hv, hw, hz, h1, h2, h3⟩, hB8.alloc hB8.size _, c8.below b9, ⟨heap_alloc_new w8 _, World.ownsRow_nil _ _ _ _, World.ownsRow_nil _ _ _ _⟩, fun k hk hk2 => ?_, x8v.below b9, x8w.below b9, x8z.below b9⟩
  have e1 : k = w7.heap.size := by
    rcases hk with q | q | q
    · exact q
    · cases q
    · cases q
  have e2 : k = w8.heap.size := by
    rcases hk2 with q | q | q
    · exact q
    · cases q
    · cases q
  omega
def AS (w wr : World) (bc bd gv gw gz : Nat) (Q Qz : Pv.Qry) : Prop := ∃ vr vn vr2 vn2 cs all ds alld t tz, AP w.heap.size w wr bc bd gv gw gz Q Qz vr vn vr2 vn2 cs all ds alld t t tz ∧ Pk.CInv cs all ∧ Pk.Same t cs ∧ Pk.CInv ds alld ∧ Pk.Same tz ds
set_option maxRecDepth 100000 in
set_option maxHeartbeats 4000000 in
theorem apart_walk (s o : ByteArray) (vs : Value) (len : Nat) (S : Nat → ByteArray) (vs2 : Value) (len2 : Nat) (S2 : Nat → ByteArray) (w : World) (hs : s.size ≤ maxLen) (hso : o.size ≤ maxLen) (hl : len ≤ 1000000000000000)
    (hv : (vs = .slice none 0 0 ∧ len = 0) ∨ ∃ a cap, vs = .slice (some a) len cap ∧ ∀ i, i < len → a.block < w.heap.size ∧ w.cell? (a.add i) = some (.string (S i)) ∧ (S i).size ≤ maxLen)
    (hv2 : (vs2 = .slice none 0 0 ∧ len2 = 0) ∨ ∃ a cap, vs2 = .slice (some a) len2 cap ∧ ∀ i, i < len2 → a.block < w.heap.size ∧ w.cell? (a.add i) = some (.string (S2 i)) ∧ (S2 i).size ≤ maxLen) :
    Calls Tryz.prog 4 #[.string s, .string o, vs, vs2] w fun e w' => e = .returned (.bool true) ∧ Below w.heap.size w w' := by
  have HA := hide (Pk.reads_math s.data.toList false false)
  have HZ := hide (Pk.reads_math o.data.toList true false)
  obtain ⟨xv, cv, rfl⟩ : ∃ x c, vs = .slice x len c := by
    rcases hv with ⟨h1, h2⟩ | ⟨a, c, h1, _⟩
    · exact ⟨none, 0, by rw [h1, h2]⟩
    · exact ⟨_, _, h1⟩
  obtain ⟨xv2, cv2, rfl⟩ : ∃ x c, vs2 = .slice x len2 c := by
    rcases hv2 with ⟨h1, h2⟩ | ⟨a, c, h1, _⟩
    · exact ⟨none, 0, by rw [h1, h2]⟩
    · exact ⟨_, _, h1⟩
  have HV := hide hv
  have HV2 := hide hv2
  clear hv hv2
  go_enter Tryz.func4, Tryz.ntmps4
  go_wp2_with fail
  refine (query_any s false false _ hs).mono ?_
  rintro e w1 ⟨rfl, b1⟩
  generalize Pk.queryS s.data.toList false false = x at *
  obtain ⟨q, hq, ⟨hr, n, he⟩, ⟨hr2, n2, he2⟩, hln⟩ := HA.out
  have l1 : x.raw.length ≤ 300 := hln.1
  have l2 : x.plain.length ≤ 300 := hln.2
  rw [Pk.astPS_full (.inr rfl)] at he2
  have HQ := hide hq
  have HR := hide hr
  have HE := hide he
  have HR2 := hide hr2
  have HE2 := hide he2
  have B1 := hide b1
  clear b1 hq hr he hr2 he2 HA hln
  go_upto_region 2 with fail
  have D2 := hide (heap_alloc_new w1 (.cells #[.string ⟨x.raw.toArray⟩, .string ⟨x.plain.toArray⟩] 24))
  have B2 := hide (B1.out.alloc B1.out.size (.cells #[.string ⟨x.raw.toArray⟩, .string ⟨x.plain.toArray⟩] 24))
  generalize w1.alloc (.cells #[.string ⟨x.raw.toArray⟩, .string ⟨x.plain.toArray⟩] 24) = w2 at *
  generalize w1.heap.size = bx at *
  go_wp2_with fail
  refine (query_any o true false _ hso).mono ?_
  rintro e w3 ⟨rfl, b3⟩
  generalize Pk.queryS o.data.toList true false = y at *
  obtain ⟨qz, hq, ⟨hr, nz, he⟩, _, hln⟩ := HZ.out
  have l3 : y.raw.length ≤ 300 := hln.1
  have HQZ := hide hq
  have HRZ := hide hr
  have HEZ := hide he
  have B3 := hide (B2.out.trans (b3.mono B2.out.size))
  have D3 : Hid (w3.heap[bx]? = some (.cells #[.string ⟨x.raw.toArray⟩, .string ⟨x.plain.toArray⟩] 24 (0, 0))) := (b3.block bx (Array.getElem?_eq_some_iff.1 D2.out).1).trans D2.out
  clear b3 hq hr he HZ hln D2 B1 B2
  go_upto_region 3 with fail
  have E4 := hide (heap_alloc_new w3 (.cells #[.string ⟨y.raw.toArray⟩, .string ⟨y.plain.toArray⟩] 24))
  have B4 := hide (B3.out.alloc B3.out.size (.cells #[.string ⟨y.raw.toArray⟩, .string ⟨y.plain.toArray⟩] 24))
  have b4 := (Below.refl w3.heap.size w3).alloc (Nat.le_refl _) (.cells #[.string ⟨y.raw.toArray⟩, .string ⟨y.plain.toArray⟩] 24)
  generalize w3.alloc (.cells #[.string ⟨y.raw.toArray⟩, .string ⟨y.plain.toArray⟩] 24) = w4 at *
  have D4 : Hid (w4.heap[bx]? = some (.cells #[.string ⟨x.raw.toArray⟩, .string ⟨x.plain.toArray⟩] 24 (0, 0))) := (b4.block bx (Array.getElem?_eq_some_iff.1 D3.out).1).trans D3.out
  generalize w3.heap.size = by' at *
  clear b4 D3 B3
  have c0 : w4.cell? ⟨bx, 0, none⟩ = some (.string ⟨x.raw.toArray⟩) := cell_of_heap D4.out 0
  go_wp2_with fail
  refine (begin_any (s := ⟨x.raw.toArray⟩) (n := n) (by show x.raw.toArray.size ≤ maxLen; unfold maxLen; simp; omega) HQ.out HR.out HE.out w4).mono ?_
  rintro e w5 ⟨b5, gv, vb, vk, vf, has, tp, fr, rfl, hg, hx⟩
  have B5 := hide (B4.out.trans (b5.mono B4.out.size))
  have hg1 : w.heap.size ≤ gv := Nat.le_trans B4.out.size hg
  have X5 : Hid (XVx w5 gv (Pk.qryOf q) []) := ⟨_, _, _, _, _, _, _, hx⟩
  have hgl : gv < w5.heap.size := (Array.getElem?_eq_some_iff.1 hx.blk).1
  have D5 : Hid (w5.heap[bx]? = some (.cells #[.string ⟨x.raw.toArray⟩, .string ⟨x.plain.toArray⟩] 24 (0, 0))) := (b5.block bx (Array.getElem?_eq_some_iff.1 D4.out).1).trans D4.out
  have E5 : Hid (w5.heap[by']? = some (.cells #[.string ⟨y.raw.toArray⟩, .string ⟨y.plain.toArray⟩] 24 (0, 0))) := (b5.block by' (Array.getElem?_eq_some_iff.1 E4.out).1).trans E4.out
  have c1 : w5.cell? ⟨bx, 1, none⟩ = some (.string ⟨x.plain.toArray⟩) := cell_of_heap D5.out 1
  clear b5 hx c0 D4 E4 hg B4
  go_wp2_with fail
  refine (begin_any (s := ⟨x.plain.toArray⟩) (n := n2) (by show x.plain.toArray.size ≤ maxLen; unfold maxLen; simp; omega) HQ.out HR2.out HE2.out w5).mono ?_
  rintro e w6 ⟨b6, gw, vb2, vk2, vf2, has2, tp2, fr2, rfl, hg, hx⟩
  have B6 := hide (B5.out.trans (b6.mono B5.out.size))
  have hg2 : w.heap.size ≤ gw := Nat.le_trans B5.out.size hg
  have X6 := hide (X5.out.below b6)
  have Y6 : Hid (XVx w6 gw (Pk.qryOf q) []) := ⟨_, _, _, _, _, _, _, hx⟩
  have hgw : gw < w6.heap.size := (Array.getElem?_eq_some_iff.1 hx.blk).1
  have hvw : gv ≠ gw := by omega
  have hgl6 : gv < w6.heap.size := Nat.lt_of_lt_of_le hgl b6.size
  have E6 : Hid (w6.heap[by']? = some (.cells #[.string ⟨y.raw.toArray⟩, .string ⟨y.plain.toArray⟩] 24 (0, 0))) := (b6.block by' (Array.getElem?_eq_some_iff.1 E5.out).1).trans E5.out
  have c2 : w6.cell? ⟨by', 0, none⟩ = some (.string ⟨y.raw.toArray⟩) := cell_of_heap E6.out 0
  clear b6 hx c1 D5 E5 hg X5 B5 hgl
  go_wp2_with fail
  refine (begin_any (s := ⟨y.raw.toArray⟩) (n := nz) (by show y.raw.toArray.size ≤ maxLen; unfold maxLen; simp; omega) HQZ.out HRZ.out HEZ.out w6).mono ?_
  rintro e w7 ⟨b7, gz, vb3, vk3, vf3, has3, tp3, fr3, rfl, hg, hx⟩
  have B7 := hide (B6.out.trans (b7.mono B6.out.size))
  have hg3 : w.heap.size ≤ gz := Nat.le_trans B6.out.size hg
  have X7 := hide (X6.out.below b7)
  have Y7 := hide (Y6.out.below b7)
  have Z7 : Hid (XVx w7 gz (Pk.qryOf qz) []) := ⟨_, _, _, _, _, _, _, hx⟩
  have hvz : gv ≠ gz := by omega
  have hwz : gw ≠ gz := by omega
  clear b7 hx c2 E6 hg X6 Y6 B6 hgw hgl6 HQ HR HE HR2 HE2 HQZ HRZ HEZ
  go_upto_region 14 with fail
  have A7 := hide (AP.start B7.out hg1 hg2 hg3 hvw hvz hwz X7.out Y7.out Z7.out rfl rfl)
  generalize (w7.alloc (.cells #[.slice none 0 0, .slice none 0 0, .int .i64 0] 33)).alloc (.cells #[.slice none 0 0, .slice none 0 0, .int .i64 0] 33) = w9 at *
  generalize hbd : (w7.alloc (.cells #[.slice none 0 0, .slice none 0 0, .int .i64 0] 33)).heap.size = bd at *
  have hbd2 : w7.heap.size + 1 = bd := by rw [← hbd]; simp
  generalize w7.heap.size = bc at *
  clear hbd
  generalize Pk.qryOf q = Q at *
  generalize Pk.qryOf qz = Qz at *
  have A0 : Hid (AS w w9 bc bd gv gw gz Q Qz) := ⟨_, _, _, _, _, _, _, _, _, _, A7.out, Pk.CInv.nil, fun r => rfl, Pk.CInv.nil, fun r => rfl⟩
  clear A7 X7 Y7 Z7 hg1 hg2 hg3 hvw hvz hwz B7
  subst hbd2
  go_wp2
  go_loopw [17] (fun i wr => ∃ k : Nat, k ≤ len ∧ i = .int .i64 k ∧ Hid (AS w wr bc (bc + 1) gv gw gz Q Qz)) (fun i _ => len - (intOf i).toNat)
  case atStart => exact ⟨0, by omega, rfl, A0⟩
  case round =>
    obtain ⟨k, hk, rfl, HU⟩ := hrel
    clear A0
    by_cases hlt : k < len
    · have hlt' : (k : Int) < (len : Int) := by omega
      obtain ⟨vr, vn, vr2, vn2, cs, all, ds, alld, t, tz, ap, hI, hS, hI2, hS2⟩ := HU.out
      obtain ⟨a, cap, ea, hcell⟩ : ∃ a cap, Value.slice xv len cv = .slice (some a) len cap ∧ ∀ i, i < len → a.block < w.heap.size ∧ w.cell? (a.add i) = some (.string (S i)) ∧ (S i).size ≤ maxLen := by
        rcases HV.out with ⟨_, h2⟩ | h
        · omega
        · exact h
      cases ea
      obtain ⟨hal, hc1, hsz⟩ := hcell k hlt
      have d0 : wr.cell? (a.add k) = some (.string (S k)) := (ap.b.cell (p := a.add k) (by unfold Addr.add; split <;> exact hal)).trans hc1
      have HBO := hide (Pk.batch_ok (S k).data.toList hI hS)
      have A1 := hide ap
      have HI := hide hI
      have HI2 := hide hI2
      have HS2 := hide hS2
      have HI1 := hide HBO.out.2.2.1
      have HS1 := hide HBO.out.2.1
      clear ap hI hS hI2 hS2 HU hcell hc1
      go_wp2_with fail
      refine (A1.out.bc HI.out hsz).mono ?_
      rintro e w6 ⟨x6, n6, c6, vr', vn', rfl, ap, rc, kq⟩
      have A6 := hide ap
      have RC6 := hide rc
      have A6N : Hid (w.heap.size ≤ w6.heap.size) := ap.b.size
      have TI1 := hide (ap.xv.tinv.next (b := (Pk.batchF (S k).data.toList cs all).l) (by rw [HBO.out.1])).1
      have h9 : (Pv.refusedF t (Pk.batchF (S k).data.toList cs all).l).1 = 0 := by rw [HBO.out.1]
      have SMA := hide (ap.xv.small.2 ap.xv.tinv h9)
      clear h9
      have SMR := hide (ap.xv.small.1 TI1.out)
      clear ap rc kq A1 d0
      generalize hbt : (Pk.batchF (S k).data.toList cs all).l = bt at *
      clear hbt
      generalize (Pk.batchF (S k).data.toList cs all).cs = cs1 at *
      generalize (Pk.batchF (S k).data.toList cs all).all = all1 at *
      have SMB : Hid (∀ x ∈ Pv.appliedF Q t bt, x.2.1.length ≤ 1000 ∧ IntKind.i64.wrap (1 * x.2.2) = 1 * x.2.2) := fun x hx => by
        obtain ⟨h1, h2, h3⟩ := SMA.out.2 x hx
        exact ⟨h1, wrapOne1 h2 h3⟩
      go_wp2_with fail
      refine (A6.out.av RC6.out HBO.out.1 (by have := HBO.out.2.2.2; omega)).mono ?_
      rintro e w7 ⟨x7, n7, c7, P7, rfl, ap, oq, hm7, kq⟩
      have HT1 : Hid (Pv.tableF t bt = Pv.tableF t bt) := rfl
      have A7 := hide ap
      have O7 := hide oq
      have HM7 := hide hm7
      have RC7 := hide (kq.kp.c _ _ RC6.out)
      clear ap oq hm7 kq A6 RC6
      generalize hT1 : Pv.tableF t bt = T1 at *
      clear HT1
      have HT1 := hide hT1
      clear hT1
      by_cases hlt2 : k < len2
      · have hlt2' : (k : Int) < (len2 : Int) := by omega
        obtain ⟨a2, cap2, ea2, hcell2⟩ : ∃ a cap, Value.slice xv2 len2 cv2 = .slice (some a) len2 cap ∧ ∀ i, i < len2 → a.block < w.heap.size ∧ w.cell? (a.add i) = some (.string (S2 i)) ∧ (S2 i).size ≤ maxLen := by
          rcases HV2.out with ⟨_, h2⟩ | h
          · omega
          · exact h
        cases ea2
        obtain ⟨hal2, hc2, hsz2⟩ := hcell2 k hlt2
        have d2 : w7.cell? (a2.add k) = some (.string (S2 k)) := (A7.out.b.cell (p := a2.add k) (by unfold Addr.add; split <;> exact hal2)).trans hc2
        have HB2 := hide (Pk.batch_ok (S2 k).data.toList HI2.out HS2.out)
        clear hcell2 hc2
        go_wp2_with fail
        refine (A7.out.bd HI2.out hsz2).mono ?_
        rintro e wy ⟨xy, ny, cy, vr3, vn3, rfl, ap, rc, kq⟩
        have Ay := hide ap
        have RCy := hide rc
        have Oy := hide (kq.q _ _ _ O7.out)
        have RBy := hide (kq.kp.c _ _ RC7.out)
        clear ap rc kq A7 O7 RC7 d2
        go_wp2_with fail
        refine (Ay.out.az RCy.out HB2.out.1 (by have := HB2.out.2.2.2; omega)).mono ?_
        rintro e w8 ⟨xz, nz, cz, rfl, ap, kq⟩
        have A8 := hide ap
        have O8 := hide (kq.q _ _ _ Oy.out)
        have RC8 := hide (kq.kp.c _ _ RBy.out)
        have HI8 := hide HB2.out.2.2.1
        have HS8 := hide HB2.out.2.1
        clear ap kq Ay RCy Oy RBy HB2
        go_wp2_with fail
        refine (A8.out.aw RC8.out HBO.out.1 (by have := HBO.out.2.2.2; omega)).mono ?_
        rintro e w9 ⟨x9, n9, c9, P9, rfl, ap, oq, hm9, kq⟩
        have A9 := hide ap
        have O9 := hide (kq.q _ _ _ O8.out)
        have Y9 : Hid (RdO w9 (.slice x9 n9 c9) (Pv.appliedF Q t bt)) := by
          show RdO _ _ _
          rw [← hm9]
          exact oq.toP.toO.rd
        have X9 : Hid (RdO w9 (.slice x7 n7 c7) (timesO 1 (Pv.appliedF Q t bt))) := by
          show RdO _ _ _
          rw [timesO_one, ← HM7.out]
          exact O9.out.toP.toO.rd
        clear ap oq kq A8 O8 RC8 hm9
        go_wp2_with fail
        refine (ksameOuts_eq (sg := 1) X9.out Y9.out (by have := SMA.out.1; omega) SMB.out).mono ?_
        rintro e w10 ⟨rfl, b10⟩
        have A10 := hide (A9.out.below b10)
        have O10 := hide (O9.out.below b10)
        clear b10 A9 O9 X9 Y9
        go_wp2_with fail
        refine (scribble_any (Scr.ofQ O10.out (fun x hx => (SMA.out.2 x.1 (by rw [← HM7.out]; exact List.mem_map.2 ⟨x, hx, rfl⟩)).1)) (by rw [List.length_map]; have h9 := congrArg List.length HM7.out; rw [List.length_map] at h9; have := SMA.out.1; omega) (2 * (k : Int)) (by omega) (by omega)).mono ?_
        rintro e w11 ⟨rfl, bu⟩
        have A11 := hide (A10.out.scr bu (Nat.le_trans A6N.out (Nat.le_refl _)))
        clear bu A10 O10
        go_wp2_with fail
        refine (A11.out.xv.rowsQ).mono ?_
        rintro e w12 ⟨bl, u12, P12, rfl, oq, hm12⟩
        obtain ⟨x12, n12, c12, rfl⟩ := own_sl oq.row
        have A12 := hide (A11.out.below bl)
        have O12 := hide oq
        have HM12 := hide hm12
        have hs11 : Hid (w.heap.size ≤ w11.heap.size) := A11.out.b.size
        clear bl oq hm12 A11
        go_wp2_with fail
        refine (scribble_any (Scr.ofQ O12.out (fun x hx => (SMR.out.2 x.1 (by rw [← HM12.out]; exact List.mem_map.2 ⟨x, hx, rfl⟩)).1)) (by rw [List.length_map]; have h9 := congrArg List.length HM12.out; rw [List.length_map] at h9; have := SMR.out.1; omega) (2 * (k : Int) + 1) (by omega) (by omega)).mono ?_
        rintro e w13 ⟨rfl, bu⟩
        have A13 := hide (A12.out.scr bu hs11.out)
        clear bu A12 O12 HM12 hs11
        go_wp2_with fail
        refine (A13.out.xv.tabOwn).mono ?_
        rintro e w14 ⟨bl, x14, c14, rfl, own⟩
        have BL := hide bl
        have OT : Hid (∃ xs, w14.ownsRow w13.heap.size 47 4 (.slice x14 T1.length c14) T1.length xs) := ⟨_, own⟩
        clear bl own
        have hT40 := TI1.out.len
        generalize wr = wa at *
        go_wp2
        go_loopw [30] (fun i wx => ∃ j : Nat, j ≤ T1.length ∧ i = .int .i64 j ∧ Hid (Below w13.heap.size w13 wx) ∧ Hid (∃ xs, wx.ownsRow w13.heap.size 47 4 (.slice x14 T1.length c14) T1.length xs)) (fun i _ => T1.length - (intOf i).toNat)
        case atStart => exact ⟨0, by omega, rfl, BL, OT⟩
        case round =>
          obtain ⟨j, hj, rfl, BX, OX⟩ := hrel
          by_cases hjl : j < T1.length
          · have hjl' : (j : Int) < (T1.length : Int) := by omega
            obtain ⟨xs, ho⟩ := OX.out
            obtain ⟨gt, ct2, e3⟩ : ∃ g c, Value.slice x14 T1.length c14 = .slice (some ⟨g, 0, none⟩) T1.length c := by
              rcases own_form ho with ⟨_, h2⟩ | ⟨g, c, h1⟩
              · omega
              · exact ⟨g, c, h1⟩
            cases e3
            have hyl : xs.length = T1.length * 4 := ho.1
            have e5 : xs[j * 4 + 3]? = some xs[j * 4 + 3] := List.getElem?_eq_getElem (by omega)
            have t5 := RdG.cell (RdG.ofOwn ho) _ _ e5
            rw [Nat.zero_add] at t5
            have f5 := own_free5 ho (j * 4 + 3)
            have hga := (own_at ho (g := gt) rfl).1
            have BN := hide (BX.out.setCell (p := ⟨gt, j * 4 + 3, none⟩) hga (.int .i64 (1000 + (k : Int))))
            have ON : Hid (∃ xs, (wr.setCell ⟨gt, j * 4 + 3, none⟩ (.int .i64 (1000 + (k : Int)))).ownsRow w13.heap.size 47 4 (.slice (some ⟨gt, 0, none⟩) T1.length c14) T1.length xs) := ⟨_, own_setG ho gt (j * 4 + 3) _⟩
            generalize xs[j * 4 + 3] = y5 at *
            clear ho e5 hyl OX BX BL OT
            go_wp2
            go_roundw
            case rel => exact ⟨j + 1, by omega, by go_num, BN, ON⟩
            case measure => simp [intOf]; omega
          · have hjl' : ¬ (j : Int) < (T1.length : Int) := by omega
            have A14 := hide (A13.out.below BX.out)
            clear BL OT
            go_wp2
            go_roundw
            case rel => exact ⟨k + 1, by omega, by go_num, _, _, _, _, _, _, _, _, _, _, by rw [HT1.out] at A14; exact A14.out, HI1.out, HS1.out, HI8.out, HS8.out⟩
            case measure => simp [intOf]; omega
      · have hlt2' : ¬ (k : Int) < (len2 : Int) := by omega
        have A8 := A7
        have O8 := O7
        have RC8 := RC7
        have HI8 := HI2
        have HS8 := HS2
        clear A7 O7 RC7
        go_wp2_with fail
        refine (A8.out.aw RC8.out HBO.out.1 (by have := HBO.out.2.2.2; omega)).mono ?_
        rintro e w9 ⟨x9, n9, c9, P9, rfl, ap, oq, hm9, kq⟩
        have A9 := hide ap
        have O9 := hide (kq.q _ _ _ O8.out)
        have Y9 : Hid (RdO w9 (.slice x9 n9 c9) (Pv.appliedF Q t bt)) := by
          show RdO _ _ _
          rw [← hm9]
          exact oq.toP.toO.rd
        have X9 : Hid (RdO w9 (.slice x7 n7 c7) (timesO 1 (Pv.appliedF Q t bt))) := by
          show RdO _ _ _
          rw [timesO_one, ← HM7.out]
          exact O9.out.toP.toO.rd
        clear ap oq kq A8 O8 RC8 hm9
        go_wp2_with fail
        refine (ksameOuts_eq (sg := 1) X9.out Y9.out (by have := SMA.out.1; omega) SMB.out).mono ?_
        rintro e w10 ⟨rfl, b10⟩
        have A10 := hide (A9.out.below b10)
        have O10 := hide (O9.out.below b10)
        clear b10 A9 O9 X9 Y9
        go_wp2_with fail
        refine (scribble_any (Scr.ofQ O10.out (fun x hx => (SMA.out.2 x.1 (by rw [← HM7.out]; exact List.mem_map.2 ⟨x, hx, rfl⟩)).1)) (by rw [List.length_map]; have h9 := congrArg List.length HM7.out; rw [List.length_map] at h9; have := SMA.out.1; omega) (2 * (k : Int)) (by omega) (by omega)).mono ?_
        rintro e w11 ⟨rfl, bu⟩
        have A11 := hide (A10.out.scr bu (Nat.le_trans A6N.out (Nat.le_refl _)))
        clear bu A10 O10
        go_wp2_with fail
        refine (A11.out.xv.rowsQ).mono ?_
        rintro e w12 ⟨bl, u12, P12, rfl, oq, hm12⟩
        obtain ⟨x12, n12, c12, rfl⟩ := own_sl oq.row
        have A12 := hide (A11.out.below bl)
        have O12 := hide oq
        have HM12 := hide hm12
        have hs11 : Hid (w.heap.size ≤ w11.heap.size) := A11.out.b.size
        clear bl oq hm12 A11
        go_wp2_with fail
        refine (scribble_any (Scr.ofQ O12.out (fun x hx => (SMR.out.2 x.1 (by rw [← HM12.out]; exact List.mem_map.2 ⟨x, hx, rfl⟩)).1)) (by rw [List.length_map]; have h9 := congrArg List.length HM12.out; rw [List.length_map] at h9; have := SMR.out.1; omega) (2 * (k : Int) + 1) (by omega) (by omega)).mono ?_
        rintro e w13 ⟨rfl, bu⟩
        have A13 := hide (A12.out.scr bu hs11.out)
        clear bu A12 O12 HM12 hs11
        go_wp2_with fail
        refine (A13.out.xv.tabOwn).mono ?_
        rintro e w14 ⟨bl, x14, c14, rfl, own⟩
        have BL := hide bl
        have OT : Hid (∃ xs, w14.ownsRow w13.heap.size 47 4 (.slice x14 T1.length c14) T1.length xs) := ⟨_, own⟩
        clear bl own
        have hT40 := TI1.out.len
        generalize wr = wa at *
        go_wp2
        go_loopw [30] (fun i wx => ∃ j : Nat, j ≤ T1.length ∧ i = .int .i64 j ∧ Hid (Below w13.heap.size w13 wx) ∧ Hid (∃ xs, wx.ownsRow w13.heap.size 47 4 (.slice x14 T1.length c14) T1.length xs)) (fun i _ => T1.length - (intOf i).toNat)
        case atStart => exact ⟨0, by omega, rfl, BL, OT⟩
        case round =>
          obtain ⟨j, hj, rfl, BX, OX⟩ := hrel
          by_cases hjl : j < T1.length
          · have hjl' : (j : Int) < (T1.length : Int) := by omega
            obtain ⟨xs, ho⟩ := OX.out
            obtain ⟨gt, ct2, e3⟩ : ∃ g c, Value.slice x14 T1.length c14 = .slice (some ⟨g, 0, none⟩) T1.length c := by
              rcases own_form ho with ⟨_, h2⟩ | ⟨g, c, h1⟩
              · omega
              · exact ⟨g, c, h1⟩
            cases e3
            have hyl : xs.length = T1.length * 4 := ho.1
            have e5 : xs[j * 4 + 3]? = some xs[j * 4 + 3] := List.getElem?_eq_getElem (by omega)
            have t5 := RdG.cell (RdG.ofOwn ho) _ _ e5
            rw [Nat.zero_add] at t5
            have f5 := own_free5 ho (j * 4 + 3)
            have hga := (own_at ho (g := gt) rfl).1
            have BN := hide (BX.out.setCell (p := ⟨gt, j * 4 + 3, none⟩) hga (.int .i64 (1000 + (k : Int))))
            have ON : Hid (∃ xs, (wr.setCell ⟨gt, j * 4 + 3, none⟩ (.int .i64 (1000 + (k : Int)))).ownsRow w13.heap.size 47 4 (.slice (some ⟨gt, 0, none⟩) T1.length c14) T1.length xs) := ⟨_, own_setG ho gt (j * 4 + 3) _⟩
            generalize xs[j * 4 + 3] = y5 at *
            clear ho e5 hyl OX BX BL OT
            go_wp2
            go_roundw
            case rel => exact ⟨j + 1, by omega, by go_num, BN, ON⟩
            case measure => simp [intOf]; omega
          · have hjl' : ¬ (j : Int) < (T1.length : Int) := by omega
            have A14 := hide (A13.out.below BX.out)
            clear BL OT
            go_wp2
            go_roundw
            case rel => exact ⟨k + 1, by omega, by go_num, _, _, _, _, _, _, _, _, _, _, by rw [HT1.out] at A14; exact A14.out, HI1.out, HS1.out, HI8.out, HS8.out⟩
            case measure => simp [intOf]; omega
    · have hlt' : ¬ (k : Int) < (len : Int) := by omega
      obtain ⟨vr, vn, vr2, vn2, cs, all, ds, alld, t, tz, ap, hI, hS, _, _⟩ := HU.out
      have A1 := hide ap
      have TI := hide ap.xv.tinv
      have HTT : Hid (Pv.totalF t = all) := (Pk.total_eq hS).trans hI.tot
      have SMR := hide (ap.xv.small.1 ap.xv.tinv)
      have SMB : Hid (∀ x ∈ Pv.rowsF Q t, x.2.1.length ≤ 1000 ∧ IntKind.i64.wrap (1 * x.2.2) = 1 * x.2.2) := fun x hx => by
        obtain ⟨h1, h2, h3⟩ := SMR.out.2 x hx
        exact ⟨h1, wrapOne1 h2 h3⟩
      clear ap hI hS HU
      generalize wr = wa at *
      go_wp2_with fail
      refine (A1.out.xv.rows).mono ?_
      rintro e w11 ⟨bl, x11, n11, c11, rfl, r11⟩
      have A11 := hide (A1.out.below bl)
      have L11 := hide r11
      clear bl r11 A1
      go_wp2_with fail
      refine (A11.out.xw.rows).mono ?_
      rintro e w12 ⟨bl, x12, n12, c12, rfl, r12⟩
      have A12 := hide (A11.out.below bl)
      have L12 := hide (L11.out.below bl)
      have M12 := hide r12
      clear bl r12 A11 L11
      go_wp2_with fail
      refine (A12.out.xv.tabRd).mono ?_
      rintro e w13 ⟨bl, x13, n13, c13, rfl, r13⟩
      have A13 := hide (A12.out.below bl)
      have L13 := hide (L12.out.below bl)
      have M13 := hide (M12.out.below bl)
      have T13 := hide r13
      clear bl r13 A12 L12 M12
      go_wp2_with fail
      refine (A13.out.xw.tabRd).mono ?_
      rintro e w14 ⟨bl, x14, n14, c14, rfl, r14⟩
      have A14 := hide (A13.out.below bl)
      have L14 : Hid (RdO w14 (.slice x11 n11 c11) (timesO 1 (Pv.rowsF Q t))) := by rw [timesO_one]; exact L13.out.below bl
      have M14 := hide (M13.out.below bl)
      have T14 := hide (T13.out.below bl)
      have V14 := hide r14
      clear bl r14 A13 L13 M13 T13
      go_wp2_with fail
      refine (ksameOuts_eq (sg := 1) L14.out M14.out (by have := SMR.out.1; omega) SMB.out).mono ?_
      rintro e w15 ⟨rfl, bl⟩
      have A15 := hide (A14.out.below bl)
      have T15 := hide (T14.out.below bl)
      have V15 := hide (V14.out.below bl)
      clear bl A14 L14 M14 T14 V14
      go_wp2_with fail
      refine (ksameTables_eq T15.out V15.out (by have := TI.out.len; omega)).mono ?_
      rintro e w16 ⟨rfl, bl⟩
      have A16 := hide (A15.out.below bl)
      have T16 := hide (T15.out.below bl)
      clear bl A15 T15 V15
      go_wp2_with fail
      refine (copies_any T16.out (by have := TI.out.len; omega) (fun c hc => by have := TI.out.bd c hc; omega)).mono ?_
      rintro e w17 ⟨rfl, hw17⟩
      obtain rfl := hw17.symm
      rw [HTT.out]
      clear hw17
      have z2 : w16.cell? ⟨bc, 2, none⟩ = some (.int .i64 all) := cell_of_heap A16.out.c.blk 2
      go_wp2
      go_ret
      exact ⟨by simp, A16.out.b⟩
end Go.Proofs.YtcoofnhdbejnpabGreatDoor

