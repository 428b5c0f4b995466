/- Package paneskeep: Known answers true, desc is true (written by gen_gm.py). -/
import Derived.Test.YtcoofnhdbejnpaaGreatDoorG47
import Derived.Test.YtcoofnhdbejnpaaGreatDoorRows
import Derived.ProofKit
import Derived.LaidMore
import Derived.OpenShut
import Derived.ShutString
import Derived.Stop.Joined
import Derived.Test.YtcoofnhdbejnpaaGreatDoorCards
import Derived.Test.YtcoofnhdbejnpaaGreatDoorTie
import Derived.SevenTiedAt
namespace Go.Proofs.YtcoofnhdbejnpaaGreatDoor
open Go.RowKit
open Pk (LN Fx gAt vAt LineOk nxt adv FuOk)
set_option maxRecDepth 100000 in
set_option maxHeartbeats 4000000 in
theorem known_true (s s2 : ByteArray) (hs : s.size ≤ maxLen) (hs2 : s2.size ≤ maxLen) (w : World) :
    Calls Tryz.prog 6 #[.string s, .string s2, .bool true] w fun e w' => e = .returned (.bool true) ∧ Below w.heap.size w w' := by
  obtain ⟨j0, hj, hy0, hy1, hy2⟩ := info_parts infoSl
  obtain ⟨i0, hi0, hz0, hz1, hz2⟩ := info_parts infoVal
  go_enter Tryz.func6, Tryz.ntmps6
  go_wp2_with fail
  refine (lined_any s hs _).mono ?_
  rintro e w1 ⟨b1, sg, sv, L, rfl, hlm⟩
  obtain ⟨ag, cg, rfl⟩ := RdG.sl hlm.rg
  obtain ⟨av, cv, rfl⟩ := RdG.sl hlm.rv
  have hl := hlm.ok.len
  have B1 := hide b1
  have M1 := hide hlm
  clear b1 hlm
  unfold lv
  go_upto_region 2 with fail
  have D2 := hide (heap_alloc_new w1 (.cells #[.slice ag L.length cg, .slice av L.length cv] 27))
  have E2 := hide ((Below.refl w1.heap.size w1).alloc (Nat.le_refl _) (.cells #[.slice ag L.length cg, .slice av L.length cv] 27))
  generalize w1.alloc (.cells #[.slice ag L.length cg, .slice av L.length cv] 27) = w2 at *
  go_upto_region 3 with fail
  have D3 := hide (heap_alloc_new w2 (.cells #[.string s2, .int .i64 0] 31))
  have E3 := hide ((Below.refl w2.heap.size w2).alloc (Nat.le_refl _) (.cells #[.string s2, .int .i64 0] 31))
  generalize w2.alloc (.cells #[.string s2, .int .i64 0] 31) = w3 at *
  have K3 : Hid (KB w w3 L (.slice ag L.length cg) (.slice av L.length cv) w1.heap.size w2.heap.size s2 [] [] (.slice none 0 0)) := by
    have h2 : Below w1.heap.size w1 w2 := E2.out
    have h3 : Below w2.heap.size w2 w3 := E3.out
    have hz := h2.size
    have hz1 := B1.out.size
    exact ⟨(h3.block _ (Array.getElem?_eq_some_iff.1 D2.out).1).trans D2.out, ⟨0, D3.out, Nat.zero_le _, hs2⟩, (M1.out.below h2).below h3, (B1.out.trans (h2.mono hz1)).trans (h3.mono (Nat.le_trans hz1 hz)), by omega, World.ownsRow_nil _ _ _ _, ⟨rfl, fun j h => by simp at h⟩, fun c hc => by simp at hc⟩
  clear D2 E2 D3 E3 M1
  generalize w1.heap.size = bl at *
  generalize w2.heap.size = bf at *
  obtain ⟨a0, hf0⟩ := K3.out.fd
  have F3 := hide hf0
  clear hf0
  go_wp2_with fail
  refine (fnext3 F3.out 4 4 rfl (by omega) (by omega)).mono ?_
  rintro e w4 ⟨rfl, f4, b4⟩
  have K4 := hide (K3.out.eat f4 b4)
  have n4 := Pk.nxt_lt s2.data.toList a0 4 (by omega)
  generalize nxt s2.data.toList a0 4 = nn at *
  clear f4 b4 K3 F3 B1
  have X4 : Hid (∃ ds ys, ds.length = 0 ∧ KB w w4 L (.slice ag L.length cg) (.slice av L.length cv) bl bf s2 ds ys (.slice none 0 0) ∧ (⟨#[111, 114, 100, 101, 114, 32, 107, 32, 100, 101, 115, 99, 32, 115, 104, 111, 119, 32]⟩ : ByteArray).data.toList = Pk.txtK true (fnsD ds)) := ⟨[], [], rfl, K4.out, rfl⟩
  clear K4
  go_wp2
  go_loopw [9, 10, 12] (fun t9 v10 i12 wr => ∃ (i : Nat) (tk : ByteArray), i ≤ nn + 1 ∧ i12 = .int .i64 i ∧ t9 = .string tk ∧ tk.size ≤ 20 + 50 * i ∧ (∃ x n c, v10 = .slice x n c) ∧ Hid (∃ ds ys, ds.length = i ∧ KB w wr L (.slice ag L.length cg) (.slice av L.length cv) bl bf s2 ds ys v10 ∧ tk.data.toList = Pk.txtK true (fnsD ds))) (fun _ _ i _ => nn + 1 - (intOf i).toNat)
  case atStart => exact ⟨0, _, by omega, rfl, rfl, by decide, ⟨_, _, _, rfl⟩, X4⟩
  case round =>
    obtain ⟨i, tk, hi, rfl, rfl, htk, ⟨x0, m0, c0', rfl⟩, HX⟩ := hrel
    obtain ⟨ds, ys, hdl, hkb, htx⟩ := HX.out
    have K5 := hide hkb
    have T5 := hide htx
    have DL := hide hdl
    clear hkb htx hdl HX X4
    by_cases hlt : i < nn + 1
    · have hlt' : (i : Int) < 1 + (nn : Int) := by omega
      have q0 : wr.cell? ⟨bl, 0, none⟩ = some (.slice ag L.length cg) := cell_of_heap K5.out.lb 0
      have q1 : wr.cell? ⟨bl, 1, none⟩ = some (.slice av L.length cv) := cell_of_heap K5.out.lb 1
      obtain ⟨a5, hf5⟩ := K5.out.fd
      have F5 := hide hf5
      clear hf5
      go_wp2_with fail
      refine (kfun_any K5.out.lm F5.out).mono ?_
      rintro e w6 ⟨k, n, x, tk2, y, c, a6, rfl, fu, ht2, rv, f6, b6⟩
      have K6 := hide (K5.out.eat f6 b6)
      have HFU := hide fu
      have HT2 := hide ht2
      have RV := hide rv
      have hl2 : tk2.size ≤ 40 := by
        have h1 := Pq.fnTxt_len (Pk.fnOf k n x)
        rw [← ht2] at h1
        simpa using h1
      have HSN := hide (Pk.txtK_snoc true (fnsD ds) (Pk.fnOf k n x))
      have hdl6 := DL.out
      have OW : Hid (w6.ownsRow w.heap.size 34 1 (.slice x0 m0 c0') i ys) := by
        have h := K6.out.own
        rw [DL.out] at h
        exact h
      have hlow := K6.out.low.size
      clear fu ht2 rv f6 b6 q0 q1 F5 K5 hdl6
      by_cases h0 : i = 0
      · have HTT : Hid ((tk ++ tk2).data.toList = Pk.txtK true (fnsD (ds ++ [(k, n, x)]))) := by
          show _ = _
          rw [fnsD_snoc]
          show _ = Pk.txtK true (fnsD ds ++ [Pk.fnOf k n x])
          rw [HSN.out, if_pos (by rw [fnsD_len, DL.out]; exact h0), ← T5.out, ← HT2.out]
          simp
        have h0' : ¬ (0 : Int) < (i : Int) := by omega
        have HH0 := hide h0
        clear h0
        go_wp2_with (at_builtin; refine wpList_append_own_at _ rfl (.tmp 57) (.tmp 59) 32 rfl w.heap.size 34 j0 _ 1 24 Tryz.underlying32 hj hy0 hy1 hy2 rfl (by decide) _ i ys rfl (OW.out.alloc _) _ 1 1 [.slice y L.length c] rfl rfl (World.news_of_block (heap_alloc_new _ _)) (by intro u hu; simp at hu; rcases hu with rfl; rfl) (by unfold maxLen; omega) (by omega) (by simp; omega) ?_; intro v9 w9 hown9 hgrow9 hnil9 hat9; obtain ⟨x9, c9, rfl⟩ := ownS hown9; have K9 := hide (K6.out.push (c := (k, n, x)) hgrow9 (by rw [DL.out]; exact hown9) HFU.out RV.out); clear hown9 hgrow9 hnil9 hat9)
        go_roundw
        case rel => exact ⟨i + 1, _, by omega, by go_num, rfl, by have h2 : (⟨#[44, 32]⟩ : ByteArray).size = 2 := rfl; simp; omega, ⟨_, _, _, rfl⟩, _, _, by rw [List.length_append, DL.out]; rfl, K9.out, HTT.out⟩
        case measure => simp [intOf]; omega
      · have HTT : Hid ((tk ++ ⟨#[44, 32]⟩ ++ tk2).data.toList = Pk.txtK true (fnsD (ds ++ [(k, n, x)]))) := by
          show _ = _
          rw [fnsD_snoc]
          show _ = Pk.txtK true (fnsD ds ++ [Pk.fnOf k n x])
          rw [HSN.out, if_neg (by rw [fnsD_len, DL.out]; exact h0), ← T5.out, ← HT2.out]
          simp
        have h0' : (0 : Int) < (i : Int) := by omega
        have HH0 := hide h0
        clear h0
        go_wp2_with (at_builtin; refine wpList_append_own_at _ rfl (.tmp 57) (.tmp 59) 32 rfl w.heap.size 34 j0 _ 1 24 Tryz.underlying32 hj hy0 hy1 hy2 rfl (by decide) _ i ys rfl (OW.out.alloc _) _ 1 1 [.slice y L.length c] rfl rfl (World.news_of_block (heap_alloc_new _ _)) (by intro u hu; simp at hu; rcases hu with rfl; rfl) (by unfold maxLen; omega) (by omega) (by simp; omega) ?_; intro v9 w9 hown9 hgrow9 hnil9 hat9; obtain ⟨x9, c9, rfl⟩ := ownS hown9; have K9 := hide (K6.out.push (c := (k, n, x)) hgrow9 (by rw [DL.out]; exact hown9) HFU.out RV.out); clear hown9 hgrow9 hnil9 hat9)
        go_roundw
        case rel => exact ⟨i + 1, _, by omega, by go_num, rfl, by have h2 : (⟨#[44, 32]⟩ : ByteArray).size = 2 := rfl; simp; omega, ⟨_, _, _, rfl⟩, _, _, by rw [List.length_append, DL.out]; rfl, K9.out, HTT.out⟩
        case measure => simp [intOf]; omega
    · have hlt' : ¬ (i : Int) < 1 + (nn : Int) := by omega
      have hin : i = nn + 1 := by omega
      have HIN := hide hin
      clear hin
      have HNE : Hid (fnsD ds ≠ []) := fun e => by
        have := congrArg List.length e
        rw [fnsD_len, DL.out, HIN.out] at this
        simp at this
      have HL4 : Hid ((fnsD ds).length ≤ 4) := by show _ ≤ _; rw [fnsD_len, DL.out, HIN.out]; omega
      have HRD := hide (Pk.known_read (d := true) HNE.out HL4.out (fnsD_good K5.out.ok))
      obtain ⟨hr, n6, he⟩ := HRD.out
      have HR := hide hr
      have HE := hide he
      clear hr he HRD
      go_wp2_with fail
      refine (begin_any (s := tk) (n := n6) (by unfold maxLen; omega) (Pk.astK_good (d := true) HNE.out HL4.out (fnsD_good K5.out.ok)) (by rw [T5.out]; exact HR.out) (by rw [T5.out]; exact HE.out) wr).mono ?_
      rintro e w6 ⟨b6, g, vb, vk, vf, has, tp, fr, rfl, hg, hx⟩
      have K6 := hide (K5.out.below b6)
      have hg' : w.heap.size ≤ g := Nat.le_trans K5.out.low.size hg
      have X6 := hide hx
      have q0 : w6.cell? ⟨bl, 0, none⟩ = some (.slice ag L.length cg) := cell_of_heap K6.out.lb 0
      have q1 : w6.cell? ⟨bl, 1, none⟩ = some (.slice av L.length cv) := cell_of_heap K6.out.lb 1
      clear b6 hx hg K5 HR HE T5
      go_wp2_with fail
      refine (krows_any K6.out.lm true).mono ?_
      rintro e w7 ⟨b7, x7, m7, c7, rfl, rc7⟩
      obtain rfl : m7 = L.length := by have := RdC.lenC rc7; rw [this]; simp [Pk.tabK_len]
      have K7 := hide (K6.out.below b7)
      have X7 := hide (X6.out.below b7)
      have C7 := hide rc7
      clear b7 rc7 K6 X6 q0 q1
      go_wp2_with fail
      refine (xapply_K (Pk.tab_fine K7.out.lm.ok) (by rw [List.length_reverse, Pk.tabK_len]; omega) X7.out C7.out).mono ?_
      rintro e w8 ⟨x8, m8, c8, vt8, rfl, b8, xv8, ro8⟩
      have TD := hide (told_D (d := true) K7.out.lm.ok K7.out.ok)
      rw [TD.out.1] at ro8
      obtain rfl : m8 = L.length := by
        obtain ⟨aa, cc, ee⟩ := ro8.sl
        cases ee
        rw [outD_len]
      have K8 := hide (K7.out.view hg' X7.out.offX b8)
      have C8 := hide (C7.out.but b8 X7.out.offX (by decide))
      have X8 := hide xv8
      have O8 := hide ro8
      clear b8 xv8 ro8 K7 C7 X7
      go_wp2_with fail
      refine (xrows_rd X8.out).mono ?_
      rintro e w9 ⟨b9, x9, m9, c9, rfl, ro9⟩
      rw [TD.out.2] at ro9
      obtain rfl : m9 = L.length := by
        obtain ⟨aa, cc, ee⟩ := ro9.sl
        cases ee
        rw [outD_len]
      have K9 := hide (K8.out.below b9)
      have C9 := hide (C8.out.below b9)
      have O9 := hide (O8.out.below b9)
      have P9 := hide ro9
      clear b9 ro9 K8 C8 O8 X8 TD
      obtain ⟨gv, ov, cvv, ev, hcv⟩ := RdG.form1 (RdG.ofOwn K9.out.own) (by rw [DL.out, HIN.out]; omega)
      cases ev
      have AC : ∀ wx, Hid (Below w9.heap.size w9 wx → wx.cell? ⟨bl, 1, none⟩ = some (.slice av L.length cv)) := fun wx h => cell_of_heap (K9.out.below h).lb 1
      have q1 := (AC w9).out (Below.refl _ _)
      go_wp2
      clear q1
      go_loopw [22] (fun i22 wr => ∃ i : Nat, i ≤ L.length ∧ i22 = .int .i64 i ∧ Hid (Below w9.heap.size w9 wr)) (fun i _ => L.length - (intOf i).toNat)
      case atStart => exact ⟨0, by omega, rfl, Below.refl _ _⟩
      case round =>
        obtain ⟨i, hi, rfl, BA⟩ := hrel
        have q1 := (AC _).out BA.out
        by_cases hil : i < L.length
        · have hil' : (i : Int) < (L.length : Int) := by omega
          obtain ⟨j, hj1⟩ : ∃ j, L.length = i + j + 1 := ⟨L.length - i - 1, by omega⟩
          have HJ1 := hide hj1
          have hjl : j < L.length := by omega
          have hjl' : (j : Int) < (L.length : Int) := by omega
          have hrl : j < (Pk.tabK true L).reverse.length := by rw [List.length_reverse, Pk.tabK_len]; exact hjl
          obtain ⟨g7, o7, cc7, e7, _⟩ := C9.out.form1 (by rw [List.length_reverse, Pk.tabK_len]; omega)
          obtain ⟨g8, o8, cc8, e8, _⟩ := O9.out.form1 (by rw [outD_len]; omega)
          obtain ⟨g9, o9, cc9, e9, _⟩ := P9.out.form1 (by rw [outD_len]; omega)
          rw [List.length_reverse, Pk.tabK_len] at e7
          rw [outD_len] at e8 e9
          cases e7
          cases e8
          cases e9
          obtain ⟨z0, z1, z2, z3⟩ := (C9.out.below BA.out).cell j hrl
          rw [bat_get true L HJ1.out hrl] at z0 z1 z2 z3
          simp only at z0 z1 z2
          have hw : IntKind.i64.wrap ((L.length : Int) - 1 - (i : Int)) = (j : Int) := by rw [wrap_id2 (by omega) (by omega)]; omega
          have hE : (L.length : Int) - 1 - (i : Int) = (j : Int) := by omega
          generalize hrow : Pk.rowK true L i = row at *
          have HROW := hide hrow
          clear hrow z3 hj1 hrl
          go_upto_region 28 with fail
          have DA := hide (heap_alloc_new wr (.cells #[.int .i64 row.1, .int .i64 row.2.1, .int .i64 row.2.2] 48))
          have EA := hide ((Below.refl wr.heap.size wr).alloc (Nat.le_refl _) (.cells #[.int .i64 row.1, .int .i64 row.2.1, .int .i64 row.2.2] 48))
          generalize wr.alloc (.cells #[.int .i64 row.1, .int .i64 row.2.1, .int .i64 row.2.2] 48) = wa at *
          have BB := hide (BA.out.trans (EA.out.mono BA.out.size))
          generalize wr.heap.size = hr at *
          clear z0 z1 z2 q1 hw hE EA
          go_wp2
          go_loopw [24, 25] (fun o24 k25 wy => ∃ k : Nat, k ≤ nn + 1 ∧ k25 = .int .i64 k ∧ (∃ x n c, o24 = .slice x n c) ∧ Hid (Below wa.heap.size wa wy) ∧ Hid (wy.ownsRow wa.heap.size 52 2 o24 k (rvals ((ds.take k).map (valD L i))))) (fun _ k _ => nn + 1 - (intOf k).toNat)
          case atStart => exact ⟨0, by omega, rfl, ⟨_, _, _, rfl⟩, Below.refl _ _, World.ownsRow_nil _ _ _ _⟩
          case round =>
            obtain ⟨k, hk, rfl, ⟨xo, no, co, rfl⟩, BC, OC⟩ := hrel
            have BD := hide (BB.out.trans (BC.out.mono BB.out.size))
            have hsC := BC.out.size
            by_cases hkl : k < nn + 1
            · have hkl' : (k : Int) < 1 + (nn : Int) := by omega
              have hkd : k < ds.length := by have h1 := DL.out; have h2 := HIN.out; omega
              have hkd' : (k : Int) < (ds.length : Int) := by omega
              have KC := hide (K9.out.below BD.out)
              have hyk : k < ys.length := by have h1 := KC.out.vs.1; omega
              have yk : wr.cell? ⟨gv, ov + k, none⟩ = some ys[k] := RdG.cell (RdG.ofOwn KC.out.own) k _ (List.getElem?_eq_getElem hyk)
              have rv := KC.out.vs.2 k hyk hkd
              obtain ⟨gy, oy, cy, ey, _⟩ := RdG.form1 rv (by rw [valsD_len]; omega)
              rw [valsD_len] at ey
              rw [ey] at yk rv
              obtain ⟨c0, c1⟩ := RdV.cell rv i (by rw [valsD_len]; exact hil)
              rw [valsD_get] at c0 c1
              have HTK : Hid ((ds.take (k + 1)).map (valD L i) = (ds.take k).map (valD L i) ++ [valD L i ds[k]]) := by
                show _ = _
                rw [List.take_succ_eq_append_getElem hkd, List.map_append]
                rfl
              generalize (ds.take k).map (valD L i) = cur at *
              generalize valD L i ds[k] = val at *
              clear rv ey hyk
              go_wp2_with (at_builtin; refine wpList_append_own_at _ rfl (.tmp 123) (.tmp 131) 34 rfl wa.heap.size 52 i0 _ 2 16 Tryz.underlying34 hi0 hz0 hz1 hz2 rfl (by decide) _ k (rvals cur) rfl (OC.out.alloc _) _ 1 1 (vc val) rfl rfl (World.news_of_block (heap_alloc_new _ _)) (vc_one val) (by unfold maxLen; omega) (by omega) (by simp; omega) ?_; intro v11 w11 hown11 hgrow11 hnil11 hat11; have B11 := hide ((BC.out.alloc hsC _).grown hgrow11 (by simp; omega) (fun k hk => (OC.out.lt k hk).1)); have O11 := hide hown11; have HF11 := hide (own_sl hown11); clear hown11 hgrow11 hnil11 hat11)
              go_roundw
              case rel =>
                refine ⟨k + 1, by omega, by go_num, HF11.out, B11, ?_⟩
                rw [HTK.out, rvals_snoc]
                exact O11
              case measure => simp [intOf]; omega
            · have hkl' : ¬ (k : Int) < 1 + (nn : Int) := by omega
              have hkk : ds.take k = ds := List.take_of_length_le (by have h1 := DL.out; have h2 := HIN.out; omega)
              rw [hkk] at OC
              have RW : Hid (RdV wr (.slice xo no co) (ds.map (valD L i))) := RdV.ofOwn OC.out
              obtain ⟨ya, da, hra, a0, a1, a2, a3, a4⟩ := (O9.out.below BD.out).cell i (by rw [outD_len]; exact hil)
              obtain ⟨yb, db, hrb, b0, b1, b2, b3, b4⟩ := (P9.out.below BD.out).cell i (by rw [outD_len]; exact hil)
              simp only [outD_get, List.length_map, HROW.out] at hra a0 a1 a2 a3 a4 hrb b0 b1 b2 b3 b4
              have DW : wr.heap[hr]? = some (.cells #[.int .i64 row.1, .int .i64 row.2.1, .int .i64 row.2.2] 48 (0, 0)) := (BC.out.block _ (Array.getElem?_eq_some_iff.1 DA.out).1).trans DA.out
              have r0 : wr.cell? ⟨hr, 0, none⟩ = some (.int .i64 row.1) := cell_of_heap DW 0
              have r1 : wr.cell? ⟨hr, 1, none⟩ = some (.int .i64 row.2.1) := cell_of_heap DW 1
              have r2 : wr.cell? ⟨hr, 2, none⟩ = some (.int .i64 row.2.2) := cell_of_heap DW 2
              have kp : ∀ {wx : World} {p : Addr} {v : Value}, Below wr.heap.size wr wx → wr.cell? p = some v → wx.cell? p = some v := fun hb h => (hb.cell (World.cell?_lt h)).trans h
              have AC2 : ∀ wx, Hid (Below wr.heap.size wr wx → (wx.cell? ⟨g8, o8 + i * 5, none⟩ = some (.int .i64 row.1) ∧ wx.cell? ⟨g8, o8 + i * 5 + 1, none⟩ = some (.int .i64 row.2.1) ∧ wx.cell? ⟨g8, o8 + i * 5 + 2, none⟩ = some (.int .i64 row.2.2) ∧ wx.cell? ⟨g8, o8 + i * 5 + 3, none⟩ = some (.slice ya ds.length da) ∧ wx.cell? ⟨g8, o8 + i * 5 + 4, none⟩ = some (.int .i64 1)) ∧ (wx.cell? ⟨g9, o9 + i * 5, none⟩ = some (.int .i64 row.1) ∧ wx.cell? ⟨g9, o9 + i * 5 + 1, none⟩ = some (.int .i64 row.2.1) ∧ wx.cell? ⟨g9, o9 + i * 5 + 2, none⟩ = some (.int .i64 row.2.2) ∧ wx.cell? ⟨g9, o9 + i * 5 + 3, none⟩ = some (.slice yb ds.length db) ∧ wx.cell? ⟨g9, o9 + i * 5 + 4, none⟩ = some (.int .i64 1)) ∧ wx.cell? ⟨hr, 0, none⟩ = some (.int .i64 row.1) ∧ wx.cell? ⟨hr, 1, none⟩ = some (.int .i64 row.2.1) ∧ wx.cell? ⟨hr, 2, none⟩ = some (.int .i64 row.2.2)) := fun wx hb =>
                ⟨⟨kp hb a0, kp hb a1, kp hb a2, kp hb a3, kp hb a4⟩, ⟨kp hb b0, kp hb b1, kp hb b2, kp hb b3, kp hb b4⟩, kp hb r0, kp hb r1, kp hb r2⟩
              have RA := hide hra
              have RB := hide hrb
              clear kp DW hkk OC hra hrb a0 a1 a2 a3 a4 b0 b1 b2 b3 b4 r0 r1 r2
              obtain ⟨⟨a0, a1, a2, a3, a4⟩, ⟨b0, b1, b2, b3, b4⟩, r0, r1, r2⟩ := (AC2 _).out (Below.refl _ _)
              have hvl : (ds.map (valD L i)).length ≤ 1000000 := by have h1 := DL.out; have h2 := HIN.out; rw [List.length_map]; omega
              have HVL := hide hvl
              clear hvl
              go_upto_region 33 with fail
              go_still_tail 6, (by kernel_rfl)
              go_wp2_with fail
              refine (ksameRow_eq row _).mono ?_
              rintro e wz ⟨rfl, ez⟩
              replace ez := undrew ez
              have EZ := hide ez
              clear ez a0 a1 a2 a3 a4 b0 b1 b2 b3 b4 r0 r1 r2
              obtain ⟨⟨a0, a1, a2, a3, a4⟩, ⟨b0, b1, b2, b3, b4⟩, r0, r1, r2⟩ := (AC2 _).out EZ.out
              go_upto_region 34 with fail
              go_still_tail 6, (by kernel_rfl)
              go_wp2_with fail
              refine (ksameRow_eq row _).mono ?_
              rintro e wz2 ⟨rfl, ez⟩
              replace ez := undrew ez
              have EZ2 := hide (EZ.out.trans (ez.mono EZ.out.size))
              clear ez EZ a0 a1 a2 a3 a4 b0 b1 b2 b3 b4 r0 r1 r2
              obtain ⟨⟨a0, a1, a2, a3, a4⟩, ⟨b0, b1, b2, b3, b4⟩, r0, r1, r2⟩ := (AC2 _).out EZ2.out
              go_wp2_with fail
              refine (ksameVals_eq (l := ds.map (valD L i)) (RA.out.below EZ2.out) (RW.out.below EZ2.out) HVL.out).mono ?_
              rintro e wz3 ⟨rfl, ez⟩
              have EZ3 := hide (EZ2.out.trans (ez.mono EZ2.out.size))
              clear ez EZ2 a0 a1 a2 a3 a4 b0 b1 b2 b3 b4 r0 r1 r2
              obtain ⟨⟨a0, a1, a2, a3, a4⟩, ⟨b0, b1, b2, b3, b4⟩, r0, r1, r2⟩ := (AC2 _).out EZ3.out
              go_wp2_with fail
              refine (ksameVals_eq (l := ds.map (valD L i)) (RB.out.below EZ3.out) (RW.out.below EZ3.out) HVL.out).mono ?_
              rintro e wz4 ⟨rfl, ez⟩
              have EZ4 := hide (EZ3.out.trans (ez.mono EZ3.out.size))
              clear ez EZ3 a0 a1 a2 a3 a4 b0 b1 b2 b3 b4 r0 r1 r2
              obtain ⟨⟨a0, a1, a2, a3, a4⟩, ⟨b0, b1, b2, b3, b4⟩, r0, r1, r2⟩ := (AC2 _).out EZ4.out
              have BF := hide (BD.out.trans (EZ4.out.mono BD.out.size))
              go_wp2
              go_roundw
              case rel => exact ⟨i + 1, by omega, by go_num, BF⟩
              case measure => simp [intOf]; omega
        · have hil' : ¬ (i : Int) < (L.length : Int) := by omega
          go_wp2
          go_ret
          exact ⟨rfl, (K9.out.below BA.out).low⟩
end Go.Proofs.YtcoofnhdbejnpaaGreatDoor

/-
  For all texts of raw bytes and both choices of desc: paneskeep.Known returns true, and its arguments read afterwards as before. Conditions: the three tables of math/bits and internal/strconv that the road names start as the program's text lays them (the card ties them).
-/
namespace Go.Proofs.YtcoofnhdbejnpaaGreatDoor
open Go.ChangeShapes Go.WideShapes Go.ChangeAt Go.RowKit
open Go.ChangeMaps (open_string shut_string)
theorem knob : ownKnob Tryz.prog.godebug = none := by kernel_rfl
theorem known_walk (s s2 : ByteArray) (d : Bool) (w : World) (hs : s.size ≤ maxLen) (hs2 : s2.size ≤ maxLen) :
    Calls Tryz.prog 6 #[.string s, .string s2, .bool d] w fun e w' => e = .returned (.bool true) ∧ Below w.heap.size w w' := by
  cases d
  · exact known_false s s2 hs hs2 w
  · exact known_true s s2 hs hs2 w
theorem known_door (os : Os) (args : Array Value) : laidMetH Tryz.prog Rows.knownRow.laid ((World.doorLaid Tryz.prog 100 os).forCall (fun _ _ => 0) ⟨#[], args, []⟩).memory :=
  laidMetH_of_parts3 (fuel := 8) (laidMet_of_run' 8 (by kernel_rfl) (by kernel_rfl)) (by kernel_rfl) (by kernel_rfl)
set_option maxRecDepth 100000 in
set_option maxHeartbeats 1000000 in
theorem known_lifted (os : Os) (started : os.Started) (H : Type) (enc : TypeId × Value → H) :
    ReturnsInHanded {} Tryz.checked os 6 .any (fun w args => (Rows.knownSpec.pre enc Tryz.prog Tryz.f6 [] false w args ∧ laidMetH Tryz.prog Rows.knownRow.laid w) ∧ sizedMet enc Tryz.prog Tryz.f6 (OpenSpec.ofChange Rows.knownSpec) false w args)
      (Rows.knownSpec.post enc Tryz.prog Tryz.f6 false true false false) := by
  refine returnsInHanded_of_change_and (C := Tryz.checked) (X := fun w _ => laidMetH Tryz.prog Rows.knownRow.laid w) (fun _ _ _ hh h => h.of_heap hh) knob started (by kernel_rfl) Tryz.func6
    (ChangeSpec.witness_shaped (enc := enc) (C := Tryz.checked) (os := os) (X := fun w _ => laidMetH Tryz.prog Rows.knownRow.laid w) false (World.doorLaid Tryz.prog 100 os) #[.string ByteArray.empty, .string ByteArray.empty, .bool false] 8 rfl (World.shaped_of_RefB (by kernel_rfl) (by kernel_rfl)) (by kernel_rfl) (by kernel_rfl) (by kernel_rfl) (known_door os _)) ?_
  intro W base args ds gs before hval0 hW _ _ _ _
  have hval : ∀ (j : Nat) t v, Tryz.f6.params[j]? = some t → args[j]? = some v → Value.okWide Tryz.prog W .any base t v := hval0
  have hW' := hW
  obtain ⟨p, q, hA0, hV, rfl, hfz, hnd⟩ := hW
  have hA : DataW.TrodAll enc Tryz.prog W 0 (fun _ => true) true Tryz.f6.params.toList args.toList ds p := hA0
  rw [Tryz.params6] at hA hval
  obtain ⟨v0, vs0, d0, ds0, p0, q0, hargs, rfl, rfl, h0, r0⟩ := trodAll_cons hA
  obtain ⟨v1, vs1, d1, ds1, p1, q1, rfl, rfl, rfl, h1, r1⟩ := trodAll_cons r0
  obtain ⟨v2, vs2, d2, ds2, p2, q2, rfl, rfl, rfl, h2, r2⟩ := trodAll_cons r1
  obtain ⟨rfl, rfl, rfl⟩ := trodAll_nil r2
  obtain rfl : args = #[v0, v1, v2] := by cases args; simp_all
  obtain ⟨rfl, rfl⟩ := trodVars_none hV
  obtain ⟨a0, rfl, rfl, rfl, w0⟩ := open_string Tryz.underlying9 (hval 0 9 v0 rfl rfl) h0
  obtain ⟨a1, rfl, rfl, rfl, w1⟩ := open_string Tryz.underlying9 (hval 1 9 v1 rfl rfl) h1
  obtain ⟨a2, rfl, rfl, rfl⟩ := open_bool Tryz.underlying4 (hval 2 4 v2 rfl rfl) h2
  clear hA0 hval0
  simp only [List.append_nil] at hW'
  refine (known_walk a0 a1 a2 W w0 w1).mono fun e W' ⟨he, hb⟩ => ?_
  subst he
  exact ⟨_, rfl, _, _, _, [], [], [], hW', trodAll_cons_mk (shut_bool Tryz.underlying4 _) trodAll_mk0, trodAll_cons_mk (shut_string Tryz.underlying9 w0) (trodAll_cons_mk (shut_string Tryz.underlying9 w1) (trodAll_cons_mk (shut_bool Tryz.underlying4 _) trodAll_mk0)), rfl, hb.frame _, fun h => by cases h⟩
theorem known_holds : Rows.KnownSaid :=
  OpenClaim.holds_of_wide 6 Tryz.f6 rfl rfl rfl rfl rfl rfl rfl ⟨rfl, rfl, rfl, rfl, rfl⟩ rfl rfl rfl rfl rfl (by kernel_rfl) Tryz.func6 (by kernel_rfl)
    (of_decide_eq_true (by kernel_rfl)) (by unfold Func.isWrapper; first | (rw [if_pos (by decide +kernel)]; kernel_rfl) | (rw [if_neg (by decide +kernel)]; exact ⟨rfl, rfl⟩))
    (fun os started H enc _ => known_lifted os started H enc)
end Go.Proofs.YtcoofnhdbejnpaaGreatDoor

/-
  For all texts of raw bytes and both choices of desc: paneskeep.Known returns true, and its arguments read afterwards as before. No condition beyond the tie: the three tables of math/bits and internal/strconv that the road names are tied to the program's text.
-/
namespace Go.Proofs.YtcoofnhdbejnpaaGreatDoor
open Go
theorem known_card_holds : Rows.KnownCardSaid :=
  Claim7.holds_tied_plain_at .later [] [.data, .data, .data] true (true, "f2733e87251a474c41742e927a9d7f8a24398deaa213218e7e6105b0248c191c") true
    known_holds (fun _ h => by cases h) (by kernel_rfl) (fun _ h => by cases h) known_row_tie rfl ⟨rfl, rfl⟩ (by kernel_rfl) rfl
    (fun f fn hf hfn => by
      obtain rfl : f = 6 := Option.some.inj ((show Tryz.prog.funcNamed Tryz.f6.name = some 6 by kernel_rfl).symm.trans hf) |>.symm
      obtain rfl : fn = Tryz.f6 := (Option.some.inj (Tryz.func6.symm.trans hfn)).symm
      exact ⟨by kernel_rfl, fun j t ht => by
        rw [Tryz.params6] at ht
        have hm : t ∈ [9, 9, 4] := by simpa using Array.mem_of_getElem? ht
        have hall : ([9, 9, 4].all fun u => !Tryz.prog.wantsStandIn u) = true := by kernel_rfl
        exact (show Tryz.prog.wantsStandIn t = false by simpa using List.all_eq_true.1 hall t hm)⟩)
    (by kernel_rfl)
end Go.Proofs.YtcoofnhdbejnpaaGreatDoor

