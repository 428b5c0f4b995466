/- Package panes: shown, Rows, Table, Apply. -/
import Derived.Test.YtcoofnhdbejnpabGreatDoorG34
import Derived.Test.YtcoofnhdbejnpabGreatDoorG36
import Derived.Test.YtcoofnhdbejnpabGreatDoorG37
import Derived.Test.YtcoofnhdbejnpabGreatDoorG38
import Derived.Test.YtcoofnhdbejnpabGreatDoorG28
import Derived.Test.YtcoofnhdbejnpabGreatDoorG30
import Derived.Test.YtcoofnhdbejnpabGreatDoorG11
namespace Go.Proofs.YtcoofnhdbejnpabGreatDoor
open Go.RowKit
/-- a view's cells -/
def xCells (vb vk vf : Value) (has : Bool) (tp fr : Int) (vt : Value) : Array Value := #[vb, vk, vf, .bool has, .int .i64 tp, .int .i64 fr, vt]
/-- a view in memory -/
structure XV (w : World) (gx : Nat) (vb vk vf : Value) (has : Bool) (tp fr : Int) (vt : Value) (Q : Pv.Qry) (t : List Pv.Chg) : Prop where
  blk : w.heap[gx]? = some (.cells (xCells vb vk vf has tp fr vt) 91 (0, 0))
  q : QX w vb vk vf has tp fr Q
  rt : RdC w vt t
  inv : Pv.TInv t
theorem XV.below {w w' : World} {gx : Nat} {vb vk vf vt : Value} {has : Bool} {tp fr : Int} {Q : Pv.Qry} {t : List Pv.Chg} (h : XV w gx vb vk vf has tp fr vt Q t) (hb : Below w.heap.size w w') : XV w' gx vb vk vf has tp fr vt Q t :=
  ⟨(hb.block gx (Array.getElem?_eq_some_iff.1 h.blk).1).trans h.blk, h.q.below hb, h.rt.below hb, h.inv⟩
/-- the out rows of each copy -/
def ShowPost (w : World) (l : List Pv.Out) (e : Ending) (w' : World) : Prop := Below w.heap.size w w' ∧ ∃ x n c, e = .returned (.slice x n c) ∧ OwnO w' w.heap.size (.slice x n c) l
theorem rdc_sl {w : World} {v : Value} {l : List Pv.Chg} (h : RdC w v l) : ∃ a c, v = .slice a l.length c := by
  rcases h.form with ⟨h, e⟩ | ⟨g, off, cap, h, _⟩
  · exact ⟨none, 0, by rw [h, e]; rfl⟩
  · exact ⟨_, _, h⟩
theorem OwnO.sl3 {w : World} {B : Nat} {v : Value} {l : List Pv.Out} (h : OwnO w B v l) : ∃ x n c, v = .slice x n c := by
  obtain ⟨vs, _, h2⟩ := h
  exact own_sl h2
theorem OwnO.base {w : World} {B B' : Nat} {v : Value} {l : List Pv.Out} (h : OwnO w B v l) (hB : B' ≤ B) : OwnO w B' v l := by
  obtain ⟨vs, h1, h2⟩ := h
  exact ⟨vs, h1, own_base2 h2 hB⟩
set_option maxRecDepth 100000 in
set_option maxHeartbeats 2000000 in
theorem xshown_any {w : World} {gx : Nat} {vb vk vf vt : Value} {has : Bool} {tp fr : Int} {Q : Pv.Qry} {t t2 : List Pv.Chg} {v2 : Value} (h : XV w gx vb vk vf has tp fr vt Q t) (h2 : RdC w v2 t2) (hi2 : Pv.TInv t2) :
    Calls Tryz.prog 32 #[.pointer (some ⟨gx, 0, none⟩), .agg #[v2]] w fun e w' => ShowPost w (Pv.outsP Q (Pv.linesP Q.ks Q.cs t2)) e w' := by
  have HH := hide h
  have H2 := hide h2
  have HI := hide hi2
  obtain ⟨x2, c2, rfl⟩ := rdc_sl h2
  obtain ⟨xb, cb, rfl⟩ := RdG.sl h.q.rb
  obtain ⟨xk, ck, rfl⟩ := RdG.sl h.q.rk
  obtain ⟨xf, cf, rfl⟩ := RdG.sl h.q.rf
  clear h h2 hi2
  go_enter Tryz.func32, Tryz.ntmps32
  go_upto_region 1 with fail
  have C0 := hide (K1.start w #[.slice x2 t2.length c2] 83)
  generalize w.alloc (.cells #[.slice x2 t2.length c2] 83) = w0 at *
  have a0 : w0.cell? ⟨w.heap.size, 0, none⟩ = some (.slice x2 t2.length c2) := cell_of_heap C0.out.a 0
  have hlen := HI.out.len
  go_wp2_with fail
  refine (tlist_any (H2.out.below C0.out.bl) (by omega)).mono ?_
  rintro e w1 ⟨e1, u, rfl, own1⟩
  obtain ⟨x1, n1, c1, rfl⟩ := own_sl own1
  have C1 := hide (C0.out.below e1)
  have R1 := hide (RdC.ofOwn own1)
  have HV := hide (HH.out.below C1.out.bl)
  have q0 : w1.cell? ⟨gx, 0, none⟩ = some (.slice xb Q.cs.length cb) := cell_of_heap HV.out.blk 0
  have q1 : w1.cell? ⟨gx, 1, none⟩ = some (.slice xk Q.ks.length ck) := cell_of_heap HV.out.blk 1
  have q2 : w1.cell? ⟨gx, 2, none⟩ = some (.slice xf Q.fs.length cf) := cell_of_heap HV.out.blk 2
  have q3 : w1.cell? ⟨gx, 3, none⟩ = some (.bool has) := cell_of_heap HV.out.blk 3
  have q4 : w1.cell? ⟨gx, 4, none⟩ = some (.int .i64 tp) := cell_of_heap HV.out.blk 4
  have q5 : w1.cell? ⟨gx, 5, none⟩ = some (.int .i64 fr) := cell_of_heap HV.out.blk 5
  clear a0 e1 own1
  go_wp2_with fail
  refine (lOuts_any HV.out.q R1.out HI.out).mono ?_
  rintro e w2 ⟨e2, v, rfl, own2⟩
  obtain ⟨x3, n3, c3, rfl⟩ := own2.sl3
  have B2 := hide (C1.out.below e2).bl
  have O2 := hide own2
  have hs := C1.out.bl.size
  clear e2 own2 q0 q1 q2 q3 q4 q5
  go_wp2
  go_ret
  exact ⟨B2.out, _, _, _, rfl, O2.out.base hs⟩
theorem outs_small {w : World} {vb vk vf : Value} {has : Bool} {tp fr : Int} {Q : Pv.Qry} (h : QX w vb vk vf has tp fr Q) {t : List Pv.Chg} (ht : Pv.TInv t) : (Pv.outsP Q (Pv.linesP Q.ks Q.cs t)).length ≤ 160000 := by
  have h1 := outs_len Q (Pv.linesP Q.ks Q.cs t) 4000 (fun l hl => (lines_ok h ht l hl).2)
  have h2 := (Pv.lines_len Q.ks Q.cs t 40 (fun c hc => by have := ht.bd c hc; omega) t.length (Nat.le_refl _)).1
  rw [List.take_length] at h2
  have h3 := ht.len
  have h4 : (Pv.linesP Q.ks Q.cs t).length * 4000 ≤ 40 * 4000 := Nat.mul_le_mul_right _ (by omega)
  omega
theorem rd_later {w1 w2 : World} {v : Value} {l : List Pv.Out} {B : Nat} (h : OwnO w1 B v l) (hb : Below w1.heap.size w1 w2) : ∀ W, Below w1.heap.size w2 W → RdO W v l := fun _ hW => h.rd.below (hb.trans hW)
set_option maxRecDepth 100000 in
set_option maxHeartbeats 2000000 in
theorem xrows_any {w : World} {gx : Nat} {vb vk vf vt : Value} {has : Bool} {tp fr : Int} {Q : Pv.Qry} {t : List Pv.Chg} (h : XV w gx vb vk vf has tp fr vt Q t) :
    Calls Tryz.prog 10 #[.pointer (some ⟨gx, 0, none⟩)] w fun e w' => ListPost w (Pv.rowsF Q t) e w' := by
  have HH := hide h
  obtain ⟨xt, ct, rfl⟩ := rdc_sl h.rt
  have q6 : w.cell? ⟨gx, 6, none⟩ = some (.slice xt t.length ct) := cell_of_heap h.blk 6
  have HSM := hide (outs_small h.q h.inv)
  have HOK := hide (Pv.outsP_ok Q (Pv.linesP Q.ks Q.cs t))
  have HEQ := hide (Pv.rowsP_eq (q := Q) h.inv)
  have hfl := h.q.fl
  clear h
  have HRP : Hid (Pv.rowsP Q t = (Pv.addAll 1 (Pv.outsP Q (Pv.linesP Q.ks Q.cs t)) []).filter nzO) := rfl
  go_enter Tryz.func10, Tryz.ntmps10
  go_wp2_with fail
  refine (xshown_any HH.out HH.out.rt HH.out.inv).mono ?_
  rintro e w1 ⟨e1, x1, n1, c1, rfl, own1⟩
  have B1 := hide e1
  have O1 := hide own1
  clear e1 own1 q6
  generalize Pv.outsP Q (Pv.linesP Q.ks Q.cs t) = os at *
  go_upto_region 3 with fail
  have D2 := hide (heap_alloc_new w1 (.cells #[.slice none 0 0] 95))
  have B2 := hide ((Below.refl w1.heap.size w1).alloc (Nat.le_refl _) (.cells #[.slice none 0 0] 95))
  generalize w1.alloc (.cells #[.slice none 0 0] 95) = w2 at *
  have HS0 := hide (Pv.SumOk.nil Q.fs.length)
  have hsm : 0 + os.length ≤ 1000000 := by have := HSM.out; omega
  go_wp2_with fail
  refine (oAdd_any (d := Q.fs.length) (m := 0) (P := []) D2.out (OwnP.nil _ _) (Nat.le_refl _) B2.out.size HS0.out (rd_later O1.out B2.out) HOK.out hfl hsm).mono ?_
  rintro e w3 ⟨rfl, e3, v3, P3, hb3, hP3, hm3⟩
  have HS3 := hide ((Pv.SumOk.all (d := Q.fs.length) (sign := 1) (.inl rfl) os (Pv.SumOk.nil Q.fs.length) HOK.out).1)
  have HB3 := hide hb3
  have HP3 := hide hP3
  have HM3 : Hid (P3.map (·.1) = Pv.addAll 1 os []) := hm3
  have HD3 : Hid (∀ x ∈ P3, x.1.2.1.length ≤ 1000) := fun x hx => by
    have := HS3.out.vals x.1 (by rw [← HM3.out]; exact List.mem_map.2 ⟨x, hx, rfl⟩)
    omega
  have HL3 : Hid (P3.length ≤ 1000000) := by
    show _ ≤ _
    have h1 := HS3.out.len
    rw [← HM3.out, List.length_map] at h1
    omega
  have B3 := hide ((B1.out.trans ((B2.out.trans e3).mono B1.out.size)))
  clear e3 hb3 hP3 hm3
  go_wp2_with fail
  refine (oList_any HB3.out HP3.out HD3.out HL3.out).mono ?_
  rintro e w4 ⟨e4, u, P4, rfl, hq4, hm4⟩
  have HQ4 := hide hq4
  obtain ⟨x4, n4, c4, rfl⟩ := own_sl hq4.row
  have HM4 : Hid (P4.map (·.1) = Pv.rowsF Q t) := by
    show _ = _
    rw [← HEQ.out, HRP.out, hm4, HM3.out]
  have B4 := hide (B3.out.trans (e4.mono B3.out.size))
  have hs4 := B3.out.size
  clear e4 hq4 hm4
  go_wp2
  go_ret
  exact ⟨B4.out, _, P4, rfl, HQ4.out.base hs4, HM4.out⟩
set_option maxHeartbeats 1000000 in
theorem xtable_any {w : World} {gx : Nat} {vb vk vf vt : Value} {has : Bool} {tp fr : Int} {Q : Pv.Qry} {t : List Pv.Chg} (h : XV w gx vb vk vf has tp fr vt Q t) :
    Calls Tryz.prog 11 #[.pointer (some ⟨gx, 0, none⟩)] w fun e w' => Below w.heap.size w w' ∧ ∃ u, e = .returned u ∧ w'.ownsRow w.heap.size 47 4 u t.length (rchgs t) := by
  have HH := hide h
  obtain ⟨xt, ct, rfl⟩ := rdc_sl h.rt
  have q6 : w.cell? ⟨gx, 6, none⟩ = some (.slice xt t.length ct) := cell_of_heap h.blk 6
  have hlen := h.inv.len
  clear h
  go_enter Tryz.func11, Tryz.ntmps11
  go_wp2_with fail
  refine (tlist_any HH.out.rt (by omega)).mono ?_
  rintro e w1 ⟨e1, u, rfl, own1⟩
  have B1 := hide e1
  have O1 := hide own1
  clear e1 own1
  go_wp2
  go_ret
  exact ⟨B1.out, _, rfl, O1.out⟩
end Go.Proofs.YtcoofnhdbejnpabGreatDoor

/- Package panes: Apply. -/
namespace Go.Proofs.YtcoofnhdbejnpabGreatDoor
open Go.RowKit
theorem RdO.kept {w w' : World} {v : Value} {l : List Pv.Out} (h : RdO w v l) {row : Option Nat} (hg : w.grownBy w' row) (hne : ∀ k, row = some k → ∃ cur T' fz, w.heap[k]? = some (.cells cur T' fz) ∧ T' ≠ 112 ∧ T' ≠ 109) : RdO w' v l := by
  obtain ⟨vs, h1, h2⟩ := h
  exact ⟨vs, h1.kept hg (fun k hk => by obtain ⟨cur, T', fz, e, n1, _⟩ := hne k hk; exact ⟨cur, T', fz, e, n1⟩), RdG.kept h2 hg (fun k hk => by obtain ⟨cur, T', fz, e, _, n2⟩ := hne k hk; exact ⟨cur, T', fz, e, n2⟩)⟩
/-- what Apply tells and does -/
def XApplyPost (w : World) (gx : Nat) (vb vk vf : Value) (has : Bool) (tp fr : Int) (vt : Value) (Q : Pv.Qry) (t bt : List Pv.Chg) (e : Ending) (w' : World) : Prop :=
  But (fun k => k = gx) w w' ∧ ∃ x n c x2 n2 c2 P, e = .returned (.tuple #[.slice x n c, .int .i64 (Pv.refusedF t bt).1, .int .i64 ((Pv.refusedF t bt).2 : Nat)]) ∧ OwnQ w' w.heap.size (.slice x n c) P ∧ P.map (·.1) = Pv.appliedF Q t bt ∧
    w'.heap[gx]? = some (.cells (xCells vb vk vf has tp fr (.slice x2 n2 c2)) 91 (0, 0)) ∧ (((Pv.refusedF t bt).1 ≠ 0 ∧ Value.slice x2 n2 c2 = vt) ∨ ((Pv.refusedF t bt).1 = 0 ∧ w'.ownsRow w.heap.size 47 4 (.slice x2 n2 c2) (Pv.tableF t bt).length (rchgs (Pv.tableF t bt))))
theorem But.ofBelow {S : Nat → Prop} {w w' : World} (hb : Below w.heap.size w w') : But S w w' := (But.refl S w).of hb
theorem set6 {W : World} {b : Nat} {v0 v1 v2 v3 v4 v5 v6 : Value} {T : Nat} (h : W.heap[b]? = some (.cells #[v0, v1, v2, v3, v4, v5, v6] T (0, 0))) (y : Value) : (W.setCell ⟨b, 6, none⟩ y).heap[b]? = some (.cells #[v0, v1, v2, v3, v4, v5, y] T (0, 0)) := by
  simp [World.setCell, Array.getElem?_modify, h]
theorem refused2 {t bt : List Pv.Chg} (h : (Pv.refusedF t bt).1 = 0) : (Pv.refusedF t bt).2 = 0 := by
  obtain ⟨h1, h2, h3, h4⟩ := Pv.refused_ok h
  rw [Pv.refused_end (by omega) h2 h3, if_neg (by omega)]
set_option maxRecDepth 100000 in
set_option maxHeartbeats 4000000 in
theorem xapply_any {w : World} {gx : Nat} {vb vk vf vt vbt : Value} {has : Bool} {tp fr : Int} {Q : Pv.Qry} {t bt : List Pv.Chg} (h : XV w gx vb vk vf has tp fr vt Q t) (hb : RdC w vbt bt) (hbl : bt.length ≤ 4000000000000000000) :
    Calls Tryz.prog 8 #[.pointer (some ⟨gx, 0, none⟩), vbt] w fun e w' => XApplyPost w gx vb vk vf has tp fr vt Q t bt e w' := by
  have HH := hide h
  have HBT := hide hb
  obtain ⟨xt, ct, rfl⟩ := rdc_sl h.rt
  have hgl : gx < w.heap.size := (Array.getElem?_eq_some_iff.1 h.blk).1
  have q6 : w.cell? ⟨gx, 6, none⟩ = some (.slice xt t.length ct) := cell_of_heap h.blk 6
  have HFL := hide h.q.fl
  clear h hb
  go_enter Tryz.func8, Tryz.ntmps8
  go_wp2_with fail
  refine (after_any HH.out.rt HBT.out HH.out.inv hbl).mono ?_
  rintro e w1 ⟨e1, h1⟩
  have B1 := hide e1
  clear e1 q6
  rcases h1 with ⟨hne, rfl⟩ | ⟨h0, x1, n1, c1, rfl, own1⟩
  · have HNE := hide hne
    have HAP : Hid (Pv.appliedF Q t bt = []) := by show _ = _; unfold Pv.appliedF; rw [if_neg hne]
    generalize hee : (Pv.refusedF t bt).1 = ee at *
    generalize hpp : (Pv.refusedF t bt).2 = pp at *
    have HEE := hide hee
    have HPP := hide hpp
    clear hee hpp
    have hne' : (ee != 0) = true := by simp [hne]
    clear hne
    have B2 := hide (B1.out.alloc B1.out.size (.cells #[.slice none 0 0] 83))
    go_wp2
    go_ret3
    have hv := HH.out.below B2.out
    refine ⟨But.ofBelow B2.out, none, 0, 0, xt, t.length, ct, [], ?_, OwnQ.nil _ _, HAP.out.symm, hv.blk, .inl ?_⟩
    · rw [HEE.out, HPP.out]; rfl
    · rw [HEE.out]; exact ⟨HNE.out, rfl⟩
  · have H0 := hide h0
    have H02 := hide (refused2 h0)
    have O1 := hide own1
    have HT2 := hide (HH.out.inv.next h0).1
    have HEQ := hide (Pv.toldP_eq (q := Q) HH.out.inv h0)
    clear own1 h0
    have HV1 := hide (HH.out.below B1.out)
    go_upto_region 2 with fail
    have D2 := hide (heap_alloc_new w1 (.cells #[.slice x1 n1 c1] 83))
    have b2 := hide ((Below.refl w1.heap.size w1).alloc (Nat.le_refl _) (.cells #[.slice x1 n1 c1] 83))
    have hs2 : w1.heap.size < (w1.alloc (.cells #[.slice x1 n1 c1] 83)).heap.size := by simp
    generalize w1.alloc (.cells #[.slice x1 n1 c1] 83) = w2 at *
    have B2 := hide (B1.out.trans (b2.out.mono B1.out.size))
    have HV2 := hide (HV1.out.below b2.out)
    have O2 := hide (own_below O1.out b2.out)
    generalize w1.heap.size = ba at *
    have a0 : w2.cell? ⟨ba, 0, none⟩ = some (.slice x1 n1 c1) := cell_of_heap D2.out 0
    go_wp2_with fail
    refine (xshown_any HV2.out (RdC.ofOwn O2.out) HT2.out).mono ?_
    rintro e w3 ⟨e3, x3, n3, c3, rfl, own3⟩
    have B3 := hide (B2.out.trans (e3.mono B2.out.size))
    have HV3 := hide (HV2.out.below e3)
    have O3 := hide (own_below O2.out e3)
    have M3 := hide own3
    have HA3 : Hid (w3.heap[ba]? = some (.cells #[.slice x1 n1 c1] 83 (0, 0))) := (e3.block _ hs2).trans D2.out
    clear e3 own3 a0 HV1 HV2 O1 O2 D2 b2 B2
    have q6 : w3.cell? ⟨gx, 6, none⟩ = some (.slice xt t.length ct) := cell_of_heap HV3.out.blk 6
    go_wp2_with fail
    refine (xshown_any HV3.out HV3.out.rt HV3.out.inv).mono ?_
    rintro e w4 ⟨e4, x4, n4, c4, rfl, own4⟩
    have B4 := hide (B3.out.trans (e4.mono B3.out.size))
    have HV4 := hide (HV3.out.below e4)
    have O4 := hide (own_below O3.out e4)
    have M4 := hide (M3.out.rd.below e4)
    have F4 := hide own4
    have HA4 : Hid (w4.heap[ba]? = some (.cells #[.slice x1 n1 c1] 83 (0, 0))) := (e4.block _ (Array.getElem?_eq_some_iff.1 HA3.out).1).trans HA3.out
    clear e4 own4 q6 HV3 O3 HA3 M3 B3
    have a0 : w4.cell? ⟨ba, 0, none⟩ = some (.slice x1 n1 c1) := cell_of_heap HA4.out 0
    have q6 : w4.cell? ⟨gx, 6, none⟩ = some (.slice xt t.length ct) := cell_of_heap HV4.out.blk 6
    have f6 := free_of_heap HV4.out.blk 6
    have HSM1 := hide (outs_small HV4.out.q HT2.out)
    have HSM2 := hide (outs_small HV4.out.q HV4.out.inv)
    have HOK1 := hide (Pv.outsP_ok Q (Pv.linesP Q.ks Q.cs (Pv.tableF t bt)))
    have HOK2 := hide (Pv.outsP_ok Q (Pv.linesP Q.ks Q.cs t))
    have HTP : Hid (Pv.toldP Q t (Pv.tableF t bt) = (Pv.addAll (-1) (Pv.outsP Q (Pv.linesP Q.ks Q.cs t)) (Pv.addAll 1 (Pv.outsP Q (Pv.linesP Q.ks Q.cs (Pv.tableF t bt))) [])).filter nzO) := rfl
    generalize Pv.outsP Q (Pv.linesP Q.ks Q.cs (Pv.tableF t bt)) = os1 at *
    generalize Pv.outsP Q (Pv.linesP Q.ks Q.cs t) = os2 at *
    go_upto_region 7 with fail
    have hgT : ∀ k, some gx = some k → ∃ cur T' fz, w4.heap[k]? = some (.cells cur T' fz) ∧ T' ≠ 112 ∧ T' ≠ 109 := fun k hk => by
      cases hk; exact ⟨_, _, _, HV4.out.blk, by decide, by decide⟩
    have hS6 := hide (set6 HV4.out.blk (.slice x1 n1 c1))
    have M5 := hide (M4.out.kept (grown_set w4 gx 6 (.slice x1 n1 c1)) hgT)
    have F5 := hide (F4.out.rd.kept (grown_set w4 gx 6 (.slice x1 n1 c1)) hgT)
    have hbw := B1.out.size
    have O5 := hide (own_set_far (b := gx) (j := 6) (x := .slice x1 n1 c1) O4.out (fun k hk => by have := (O4.out.lt k hk).1; omega))
    have BU5 := hide ((But.ofBelow (S := fun k => k = gx) B4.out).setIn gx 6 (.slice x1 n1 c1) (fun _ => rfl))
    clear a0 q6 f6 hgT M4 F4 O4 HV4 HA4
    generalize w4.setCell ⟨gx, 6, none⟩ (.slice x1 n1 c1) = w5 at *
    go_upto_region 8 with fail
    have D6 := hide (heap_alloc_new w5 (.cells #[.slice none 0 0] 95))
    have b6 := hide ((Below.refl w5.heap.size w5).alloc (Nat.le_refl _) (.cells #[.slice none 0 0] 95))
    generalize w5.alloc (.cells #[.slice none 0 0] 95) = w6 at *
    have hfl := HFL.out
    have hsm1 : 0 + os1.length ≤ 1000000 := by have := HSM1.out; omega
    go_wp2_with fail
    refine (oAdd_any (d := Q.fs.length) (m := 0) (P := []) D6.out (OwnP.nil _ _) (Nat.le_refl _) b6.out.size (Pv.SumOk.nil _) (fun W hW => M5.out.below (b6.out.trans hW)) HOK1.out hfl hsm1).mono ?_
    rintro e w7 ⟨rfl, e7, v7, P7, hb7, hP7, hm7⟩
    have hS7 := (Pv.SumOk.all (d := Q.fs.length) (sign := 1) (.inl rfl) os1 (Pv.SumOk.nil Q.fs.length) HOK1.out).1
    have HM7 : Hid (P7.map (·.1) = Pv.addAll 1 os1 []) := hm7
    rw [← HM7.out] at hS7
    have HS7 := hide hS7
    have HB7 := hide hb7
    have HP7 := hide hP7
    have b7 := hide (b6.out.trans e7)
    have hsm2 : 0 + os1.length + os2.length ≤ 1000000 := by have := HSM1.out; have := HSM2.out; omega
    clear e7 hb7 hP7 hm7 hS7
    go_wp2_with fail
    refine (oTake_any (d := Q.fs.length) (m := 0 + os1.length) (P := P7) HB7.out HP7.out (Nat.le_refl _) b7.out.size HS7.out (fun W hW => F5.out.below (b7.out.trans hW)) HOK2.out hfl hsm2).mono ?_
    rintro e w8 ⟨rfl, e8, v8, P8, hb8, hP8, hm8⟩
    have hS8 := (Pv.SumOk.all (d := Q.fs.length) (sign := -1) (.inr rfl) os2 HS7.out HOK2.out).1
    have HM8 : Hid (P8.map (·.1) = Pv.addAll (-1) os2 (Pv.addAll 1 os1 [])) := by
      show _ = _
      rw [hm8, HM7.out]
    rw [HM7.out, ← HM8.out] at hS8
    have HD8 : Hid (∀ x ∈ P8, x.1.2.1.length ≤ 1000) := fun x hx => by
      have := hS8.vals x.1 (List.mem_map.2 ⟨x, hx, rfl⟩)
      omega
    have HL8 : Hid (P8.length ≤ 1000000) := by
      show _ ≤ _
      have h1 := hS8.len
      rw [List.length_map] at h1
      omega
    have HB8 := hide hb8
    have HP8 := hide hP8
    have b8 := hide (b7.out.trans e8)
    clear e8 hb8 hP8 hm8 hS8
    go_wp2_with fail
    refine (oList_any HB8.out HP8.out HD8.out HL8.out).mono ?_
    rintro e w9 ⟨e9, u, P9, rfl, hq9, hm9⟩
    have HQ9 := hide hq9
    obtain ⟨x9, n9, c9, rfl⟩ := own_sl hq9.row
    have HM9 : Hid (P9.map (·.1) = Pv.appliedF Q t bt) := by
      show _ = _
      rw [← HEQ.out, HTP.out, hm9, HM8.out]
    have b9 := hide (b8.out.trans (e9.mono b8.out.size))
    have hs9 := b8.out.size
    clear e9 hq9 hm9
    go_wp2
    go_ret3
    refine ⟨BU5.out.of b9.out, x9, n9, c9, x1, n1, c1, P9, ?_, HQ9.out.base (Nat.le_trans BU5.out.size hs9), HM9.out, (b9.out.block _ (Nat.lt_of_lt_of_le hgl BU5.out.size)).trans hS6.out, .inr ⟨H0.out, own_below O5.out b9.out⟩⟩
    rw [H0.out, H02.out]; rfl
end Go.Proofs.YtcoofnhdbejnpabGreatDoor

/- Package paneskeep: copies, lists that read alike. -/
namespace Go.Proofs.YtcoofnhdbejnpabGreatDoor
open Go.RowKit
set_option maxRecDepth 100000 in
set_option maxHeartbeats 1000000 in
theorem copies_any {w : World} {v : Value} {l : List Pv.Chg} (hv : RdC w v l) (hl : l.length ≤ 1000) (hbd : ∀ c ∈ l, -1000000 ≤ c.2 ∧ c.2 ≤ 1000000) :
    Calls Tryz.prog 17 #[v] w fun e w' => e = .returned (.int .i64 (Pv.totalF l)) ∧ w' = w := by
  have HV := hide hv
  have HBD := hide hbd
  obtain ⟨av, cv, rfl⟩ := rdc_sl hv
  clear hv hbd
  go_enter Tryz.func17, Tryz.ntmps17
  go_wp2
  go_loop [3, 4] (fun n i => ∃ k : Nat, k ≤ l.length ∧ i = .int .i64 k ∧ n = .int .i64 (Pv.totalF (l.take k))) (fun _ i => l.length - (intOf i).toNat)
  case atStart => exact ⟨0, by omega, rfl, rfl⟩
  case round =>
    obtain ⟨k, hk, rfl, rfl⟩ := hrel
    by_cases hlt : k < l.length
    · have hlt' : (k : Int) < (l.length : Int) := by omega
      obtain ⟨g, off, cap, e, hcap⟩ := HV.out.form1 (by omega)
      cases e
      obtain ⟨c0, c1, c2, c3⟩ := HV.out.cell k hlt
      have HT := hide (Pv.total_take l k hlt)
      obtain ⟨n1, n2⟩ := HBD.out l[k] (List.getElem_mem hlt)
      have htb := Pv.total_bd (t := l.take k) (b := 1000000) (fun c hc => HBD.out c (List.mem_of_mem_take hc))
      rw [List.length_take] at htb
      have t1 : -2000000000 ≤ Pv.totalF (l.take k) := by omega
      have t2 : Pv.totalF (l.take k) ≤ 2000000000 := by omega
      clear htb
      generalize Pv.totalF (l.take k) = s at *
      go_wp2
      go_round
      case rel => exact ⟨k + 1, by omega, by go_num, by rw [HT.out]⟩
      case measure => simp [intOf]; omega
    · have hlt' : ¬ (k : Int) < (l.length : Int) := by omega
      have HE : Hid (Pv.totalF (l.take k) = Pv.totalF l) := by show _ = _; rw [List.take_of_length_le (by omega)]
      go_wp2
      go_ret
      exact ⟨by rw [← HE.out]; rfl, rfl⟩
def krv (r : Pv.R3) : Value := .agg #[.int .i64 r.1, .int .i64 r.2.1, .int .i64 r.2.2]
set_option maxHeartbeats 1000000 in
theorem ksameRow_eq (r : Pv.R3) (w : World) : Calls Tryz.prog 42 #[krv r, krv r] w fun e w' => e = .returned (.bool true) ∧ Below w.heap.size w w' := by
  obtain ⟨p, u, v⟩ := r
  unfold krv
  simp only
  go_enter Tryz.func42, Tryz.ntmps42
  go_wp2
  go_ret
  exact ⟨by simp, ((Below.refl _ _).alloc (Nat.le_refl _) _).alloc (by simp) _⟩
set_option maxRecDepth 100000 in
set_option maxHeartbeats 1000000 in
theorem ksameVals_eq {w : World} {l : List Pv.Val} {sa sb : Value} (ha : RdV w sa l) (hb : RdV w sb l) (hl : l.length ≤ 1000000) :
    Calls Tryz.prog 43 #[sa, sb] w fun e w' => e = .returned (.bool true) ∧ Below w.heap.size w w' := by
  obtain ⟨xa, ca, rfl⟩ := RdG.sl ha
  obtain ⟨xb, cb, rfl⟩ := RdG.sl hb
  have HA := hide ha
  have HB := hide hb
  clear ha hb
  go_enter Tryz.func43, Tryz.ntmps43
  go_wp2
  go_loopw [5] (fun i wr => ∃ k m : Nat, k ≤ l.length ∧ i = .int .i64 k ∧ wr = w.drewN m) (fun i _ => l.length - (intOf i).toNat)
  case atStart => exact ⟨0, 0, by omega, rfl, rfl⟩
  case round =>
    obtain ⟨k, m, hk, rfl, rfl⟩ := hrel
    by_cases hkl : k < l.length
    · have hkl' : (k : Int) < (l.length : Int) := by omega
      obtain ⟨ga, offa, ca', ea, _⟩ := RdG.form1 HA.out (by omega)
      obtain ⟨gb, offb, cb', eb, _⟩ := RdG.form1 HB.out (by omega)
      cases ea
      cases eb
      obtain ⟨d0, d1⟩ := HA.out.cell k hkl
      obtain ⟨d2, d3⟩ := HB.out.cell k hkl
      generalize l[k].isSome = ok at *
      generalize l[k].getD 0 = n at *
      cases ok
      all_goals
        go_wp2
        go_quiet (fail)
        go_wp2
        go_roundw
        case rel => exact ⟨k + 1, m + nq, by omega, by go_num, rfl⟩
        case measure => simp [intOf]; omega
    · have hkl' : ¬ (k : Int) < (l.length : Int) := by omega
      go_wp2
      go_ret
      exact ⟨rfl, below_drewM (Below.refl _ _) _⟩
set_option maxRecDepth 100000 in
set_option maxHeartbeats 1000000 in
theorem ksameTables_eq {w : World} {l : List Pv.Chg} {sa sb : Value} (ha : RdC w sa l) (hb : RdC w sb l) (hl : l.length ≤ 100000000000000) :
    Calls Tryz.prog 16 #[sa, sb] w fun e w' => e = .returned (.bool true) ∧ Below w.heap.size w w' := by
  have HA := hide ha
  have HB := hide hb
  obtain ⟨xa, ca, rfl⟩ := rdc_sl ha
  obtain ⟨xb, cb, rfl⟩ := rdc_sl hb
  clear ha hb
  go_enter Tryz.func16, Tryz.ntmps16
  go_wp2
  go_loopw [5] (fun i wr => ∃ k : Nat, k ≤ l.length ∧ i = .int .i64 k ∧ Below w.heap.size w wr) (fun i _ => l.length - (intOf i).toNat)
  case atStart => exact ⟨0, by omega, rfl, Below.refl _ _⟩
  case round =>
    obtain ⟨k, hk, rfl, hbe⟩ := hrel
    have B1 := hide hbe
    clear hbe
    by_cases hkl : k < l.length
    · have hkl' : (k : Int) < (l.length : Int) := by omega
      obtain ⟨ga, offa, ca', ea, _⟩ := HA.out.form1 (by omega)
      obtain ⟨gb, offb, cb', eb, _⟩ := HB.out.form1 (by omega)
      cases ea
      cases eb
      obtain ⟨a0, a1, a2, a3⟩ := (HA.out.below B1.out).cell k hkl
      obtain ⟨b0, b1, b2, b3⟩ := (HB.out.below B1.out).cell k hkl
      go_upto_region 6 with fail
      go_still_tail 10, (by kernel_rfl)
      go_wp2_with fail
      refine (ksameRow_eq l[k].1 _).mono ?_
      rintro e w3 ⟨rfl, e3⟩
      replace e3 := undrew e3
      have B3 := hide (B1.out.trans (e3.mono B1.out.size))
      clear a0 a1 a2 a3 b0 b1 b2 b3 e3 B1
      obtain ⟨a0, a1, a2, a3⟩ := (HA.out.below B3.out).cell k hkl
      obtain ⟨b0, b1, b2, b3⟩ := (HB.out.below B3.out).cell k hkl
      go_wp2
      go_quiet (fail)
      go_wp2
      go_roundw
      case rel => exact ⟨k + 1, by omega, by go_num, below_drewM B3.out _⟩
      case measure => simp [intOf]; omega
    · have hkl' : ¬ (k : Int) < (l.length : Int) := by omega
      go_wp2
      go_ret
      exact ⟨rfl, B1.out⟩
/-- out rows with their numbers times a sign -/
def timesO (sg : Int) (l : List Pv.Out) : List Pv.Out := l.map (fun o => (o.1, o.2.1, sg * o.2.2))
set_option maxRecDepth 100000 in
set_option maxHeartbeats 2000000 in
theorem ksameOuts_eq {w : World} {l : List Pv.Out} {sa sb : Value} {sg : Int} (ha : RdO w sa (timesO sg l)) (hb : RdO w sb l) (hl : l.length ≤ 1000000) (hv : ∀ x ∈ l, x.2.1.length ≤ 1000 ∧ IntKind.i64.wrap (sg * x.2.2) = sg * x.2.2) :
    Calls Tryz.prog 15 #[sa, sb, .int .i64 sg] w fun e w' => e = .returned (.bool true) ∧ Below w.heap.size w w' := by
  have hlm : (timesO sg l).length = l.length := by simp [timesO]
  obtain ⟨xa, ca, ea⟩ := ha.sl
  rw [hlm] at ea
  subst ea
  obtain ⟨xb, cb, rfl⟩ := hb.sl
  have HA := hide ha
  have HB := hide hb
  have HV := hide hv
  have HLM := hide hlm
  clear ha hb hv hlm
  go_enter Tryz.func15, Tryz.ntmps15
  go_wp2
  go_loopw [7] (fun i wr => ∃ k : Nat, k ≤ l.length ∧ i = .int .i64 k ∧ Below w.heap.size w wr) (fun i _ => l.length - (intOf i).toNat)
  case atStart => exact ⟨0, by omega, rfl, Below.refl _ _⟩
  case round =>
    obtain ⟨k, hk, rfl, hbe⟩ := hrel
    have B1 := hide hbe
    clear hbe
    by_cases hkl : k < l.length
    · have hkl' : (k : Int) < (l.length : Int) := by omega
      obtain ⟨ga, offa, ca', ea, _⟩ := HA.out.form1 (by rw [HLM.out]; omega)
      obtain ⟨gb, offb, cb', eb, _⟩ := HB.out.form1 (by omega)
      rw [HLM.out] at ea
      cases ea
      cases eb
      obtain ⟨ya, da, hra, a0, a1, a2, a3, a4⟩ := (HA.out.below B1.out).cell k (by rw [HLM.out]; exact hkl)
      obtain ⟨yb, db, hrb, b0, b1, b2, b3, b4⟩ := (HB.out.below B1.out).cell k hkl
      simp only [timesO, List.getElem_map] at hra a0 a1 a2 a3 a4
      have HRA := hide hra
      have HRB := hide hrb
      clear hra hrb
      go_upto_region 6 with fail
      go_still_tail 10, (by kernel_rfl)
      go_wp2_with fail
      refine (ksameRow_eq l[k].1 _).mono ?_
      rintro e w3 ⟨rfl, e3⟩
      replace e3 := undrew e3
      have E3 := hide e3
      have c3 := (hide (e3.cell (p := ⟨ga, offa + k * 5 + 3, none⟩) (World.cell?_lt a3))).out.trans a3
      have c4 := (hide (e3.cell (p := ⟨ga, offa + k * 5 + 4, none⟩) (World.cell?_lt a4))).out.trans a4
      have d3 := (hide (e3.cell (p := ⟨gb, offb + k * 5 + 3, none⟩) (World.cell?_lt b3))).out.trans b3
      have d4 := (hide (e3.cell (p := ⟨gb, offb + k * 5 + 4, none⟩) (World.cell?_lt b4))).out.trans b4
      clear a0 a1 a2 a3 a4 b0 b1 b2 b3 b4 e3
      obtain ⟨hvk, hwk⟩ := HV.out l[k] (List.getElem_mem hkl)
      go_upto_region 7 with fail
      go_still_tail 10, (by kernel_rfl)
      go_wp2_with fail
      refine (ksameVals_eq (l := l[k].2.1) (HRA.out.below (below_d E3.out)) (HRB.out.below (below_d E3.out)) (by omega)).mono ?_
      rintro e w4 ⟨rfl, e4⟩
      replace e4 := undrew e4
      have f4 := (hide (e4.cell (p := ⟨ga, offa + k * 5 + 4, none⟩) (World.cell?_lt c4))).out.trans c4
      have g4 := (hide (e4.cell (p := ⟨gb, offb + k * 5 + 4, none⟩) (World.cell?_lt d4))).out.trans d4
      have E4 := hide (E3.out.trans (e4.mono E3.out.size))
      have B4 := hide (B1.out.trans (E4.out.mono B1.out.size))
      clear c3 c4 d3 d4 e4 B1
      go_wp2
      go_quiet (fail)
      go_wp2
      go_roundw
      case rel => exact ⟨k + 1, by omega, by go_num, below_drewM B4.out _⟩
      case measure => simp [intOf]; omega
    · have hkl' : ¬ (k : Int) < (l.length : Int) := by omega
      go_wp2
      go_ret
      exact ⟨rfl, B1.out⟩
end Go.Proofs.YtcoofnhdbejnpabGreatDoor

/- Plain mathematics: what a query of the maker's is read as; a view of it. -/
namespace Go.Proofs.YtcoofnhdbejnpabGreatDoor
open Go.RowKit
namespace Pk
open Pq (Bytes Tok PS)
/-- the query that is shown -/
def qryOf (q : Ast) : Pv.Qry := ⟨q.by', q.keys, q.funcs, (match q.top with | some (a, _) => (a : Int) | none => -1), (match q.top with | some (_, b) => (b : Int) | none => 0)⟩
theorem edgeOk_of (e : Pq.Edge) (h : GoodEdge e) : EdgeOk e := ⟨h.kind, h.num.1, by have := h.num.2; omega⟩
theorem frameOk_of (f : Pq.Frame) (h : GoodFrame f) : FrameOk f := by
  have z : EdgeOk e0 := ⟨by decide, by decide, by decide⟩
  induction f, h using GoodFrame_ind with
  | all => exact ⟨by decide, by decide, by decide, z, z⟩
  | peers => exact ⟨by decide, by decide, by decide, z, z⟩
  | near n h => exact ⟨by simp only []; omega, by simp only []; omega, by simp only []; omega, z, z⟩
  | between a b ha hb => exact ⟨by simp only []; omega, by simp only []; omega, by simp only []; omega, edgeOk_of a ha, edgeOk_of b hb⟩
theorem fnOk_of (f : Pq.Fn) (h : GoodFn f) : FnOk f := by
  have z : EdgeOk e0 := ⟨by decide, by decide, by decide⟩
  have zf : FrameOk Pq.fr0 := ⟨by decide, by decide, by decide, ⟨by decide, by decide, by decide⟩, ⟨by decide, by decide, by decide⟩⟩
  induction f, h using GoodFn_ind with
  | plain k h => exact ⟨by simp only []; omega, by simp only []; omega, by simp only []; omega, by simp only []; omega, by simp only []; omega, zf⟩
  | tile n h h0 => exact ⟨by simp only []; omega, by simp only []; omega, by simp only []; omega, by simp only []; omega, by simp only []; omega, zf⟩
  | lag k c n hk hc h => exact ⟨by simp only []; omega, hc, by simp only []; omega, by simp only []; omega, by simp only []; omega, zf⟩
  | over k c f h6 hk hc hf => exact ⟨hk, hc, by simp only []; omega, by simp only []; omega, by simp only []; omega, frameOk_of f hf⟩
end Pk
theorem QX.of {w : World} {B : Nat} {vb vk vf : Value} {q : Pk.Ast} (hq : Pk.GoodAst q) {n : Nat} {s : Pq.PS} (hs : s = Pk.astPS q n true) (o1 : w.ownsRow B 195 1 vb s.by'.length (colCells s.by')) (o2 : w.ownsRow B 206 2 vk s.keys.length (keyCells s.keys)) (o3 : w.ownsRow B 203 9 vf s.funcs.length (fnCells s.funcs)) (l1 : s.by'.length ≤ 301) (l2 : s.keys.length ≤ 301) : QX w vb vk vf s.hasTop s.top s.frm (Pk.qryOf q) := by
  subst hs
  have hfl := hq.fl
  refine ⟨RdG.ofOwn o1, RdG.ofOwn o2, RdG.ofOwn o3, Nat.le_trans l1 (by omega), hq.byL, Nat.le_trans l2 (by omega), fun k hk => hq.keys.lt k hk, hq.keys.ne, Nat.le_trans hfl (by omega), fun f hf => Pk.fnOk_of f (hq.fg f hf), ?_, ?_, ?_, ?_, ?_, ?_, ?_⟩
  all_goals
    have ht := hq.top
    unfold Pk.astPS
    try unfold Pk.qryOf
    cases hc : q.top with
    | none => simp
    | some x =>
      obtain ⟨a, b⟩ := x
      have := ht a b hc
      simp <;> omega
/-- a view just begun -/
def BegPost (w : World) (q : Pk.Ast) (e : Ending) (w' : World) : Prop :=
  Below w.heap.size w w' ∧ ∃ g vb vk vf has tp fr, e = .returned (.tuple #[.pointer (some ⟨g, 0, none⟩), .bool true]) ∧ w.heap.size ≤ g ∧ XV w' g vb vk vf has tp fr (.slice none 0 0) (Pk.qryOf q) []
set_option maxHeartbeats 1000000 in
theorem begin_any {s : ByteArray} {q : Pk.Ast} {n : Nat} (hs : s.size ≤ maxLen) (hq : Pk.GoodAst q) (hr : Pq.readE s.data.toList = 0) (he : Pq.endPS s.data.toList = Pk.astPS q n true) (w : World) :
    Calls Tryz.prog 7 #[.string s] w fun e w' => BegPost w q e w' := by
  have HQ := hide hq
  have HR := hide hr
  have HE := hide he
  clear hq hr he
  go_enter Tryz.func7, Tryz.ntmps7
  go_wp2_with fail
  refine (new_any s w hs).mono ?_
  rintro e w1 ⟨b1, ⟨hne, _⟩ | ⟨_, g, vb, vk, vf, hg, hg2, rfl, hblk, o1, o2, o3, l1, l2, l3⟩⟩
  · exact absurd HR.out hne
  · have XX : Hid (XV w1 g vb vk vf (Pq.endPS s.data.toList).hasTop (Pq.endPS s.data.toList).top (Pq.endPS s.data.toList).frm (.slice none 0 0) (Pk.qryOf q) []) := ⟨hblk, QX.of HQ.out HE.out o1 o2 o3 l1 l2, RdC.ofOwn (B := 0) (n := 0) (World.ownsRow_nil _ _ _ _), Pv.TInv.nil⟩
    have B1 := hide b1
    clear hblk o1 o2 o3 l1 l2 l3 b1
    go_wp2
    go_ret2
    exact ⟨B1.out, g, _, _, _, _, _, _, rfl, hg, XX.out⟩
end Go.Proofs.YtcoofnhdbejnpabGreatDoor

