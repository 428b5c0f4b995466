/- Package panes: Apply. -/
import Derived.Test.YtcoofnhdbejnpaaGreatDoorG30
import Derived.Test.YtcoofnhdbejnpaaGreatDoorG44
import Derived.Test.YtcoofnhdbejnpaaGreatDoorG36
import Derived.Test.YtcoofnhdbejnpaaGreatDoorG08
namespace Go.Proofs.YtcoofnhdbejnpaaGreatDoor
open Go.RowKit
theorem RdO.kept {w w' : World} {v : Value} {l : List Pv.Out} (h : RdO w v l) {row : Option Nat} (hg : w.grownBy w' row) (hne : ∀ k, row = some k → ∃ cur T' fz, w.heap[k]? = some (.cells cur T' fz) ∧ T' ≠ 52 ∧ T' ≠ 55) : RdO w' v l := by
  obtain ⟨vs, h1, h2⟩ := h
  exact ⟨vs, h1.kept hg (fun k hk => by obtain ⟨cur, T', fz, e, n1, _⟩ := hne k hk; exact ⟨cur, T', fz, e, n1⟩), RdG.kept h2 hg (fun k hk => by obtain ⟨cur, T', fz, e, _, n2⟩ := hne k hk; exact ⟨cur, T', fz, e, n2⟩)⟩
/-- what Apply tells and does -/
def XApplyPost (w : World) (gx : Nat) (vb vk vf : Value) (has : Bool) (tp fr : Int) (vt : Value) (Q : Pv.Qry) (t bt : List Pv.Chg) (e : Ending) (w' : World) : Prop :=
  But (fun k => k = gx) w w' ∧ ∃ x n c x2 n2 c2 P, e = .returned (.tuple #[.slice x n c, .int .i64 (Pv.refusedF t bt).1, .int .i64 ((Pv.refusedF t bt).2 : Nat)]) ∧ OwnQ w' w.heap.size (.slice x n c) P ∧ P.map (·.1) = Pv.appliedF Q t bt ∧
    w'.heap[gx]? = some (.cells (xCells vb vk vf has tp fr (.slice x2 n2 c2)) 114 (0, 0)) ∧ (((Pv.refusedF t bt).1 ≠ 0 ∧ Value.slice x2 n2 c2 = vt) ∨ ((Pv.refusedF t bt).1 = 0 ∧ w'.ownsRow w.heap.size 50 4 (.slice x2 n2 c2) (Pv.tableF t bt).length (rchgs (Pv.tableF t bt))))
theorem But.ofBelow {S : Nat → Prop} {w w' : World} (hb : Below w.heap.size w w') : But S w w' := (But.refl S w).of hb
theorem set6 {W : World} {b : Nat} {v0 v1 v2 v3 v4 v5 v6 : Value} {T : Nat} (h : W.heap[b]? = some (.cells #[v0, v1, v2, v3, v4, v5, v6] T (0, 0))) (y : Value) : (W.setCell ⟨b, 6, none⟩ y).heap[b]? = some (.cells #[v0, v1, v2, v3, v4, v5, y] T (0, 0)) := by
  simp [World.setCell, Array.getElem?_modify, h]
theorem refused2 {t bt : List Pv.Chg} (h : (Pv.refusedF t bt).1 = 0) : (Pv.refusedF t bt).2 = 0 := by
  obtain ⟨h1, h2, h3, h4⟩ := Pv.refused_ok h
  rw [Pv.refused_end (by omega) h2 h3, if_neg (by omega)]
set_option maxRecDepth 100000 in
set_option maxHeartbeats 4000000 in
theorem xapply_any {w : World} {gx : Nat} {vb vk vf vt vbt : Value} {has : Bool} {tp fr : Int} {Q : Pv.Qry} {t bt : List Pv.Chg} (h : XV w gx vb vk vf has tp fr vt Q t) (hb : RdC w vbt bt) (hbl : bt.length ≤ 4000000000000000000) :
    Calls Tryz.prog 18 #[.pointer (some ⟨gx, 0, none⟩), vbt] w fun e w' => XApplyPost w gx vb vk vf has tp fr vt Q t bt e w' := by
  have HH := hide h
  have HBT := hide hb
  obtain ⟨xt, ct, rfl⟩ := rdc_sl h.rt
  have hgl : gx < w.heap.size := (Array.getElem?_eq_some_iff.1 h.blk).1
  have q6 : w.cell? ⟨gx, 6, none⟩ = some (.slice xt t.length ct) := cell_of_heap h.blk 6
  have HFL := hide h.q.fl
  clear h hb
  go_enter Tryz.func18, Tryz.ntmps18
  go_wp2_with fail
  refine (after_any HH.out.rt HBT.out HH.out.inv hbl).mono ?_
  rintro e w1 ⟨e1, h1⟩
  have B1 := hide e1
  clear e1 q6
  rcases h1 with ⟨hne, rfl⟩ | ⟨h0, x1, n1, c1, rfl, own1⟩
  · have HNE := hide hne
    have HAP : Hid (Pv.appliedF Q t bt = []) := by show _ = _; unfold Pv.appliedF; rw [if_neg hne]
    generalize hee : (Pv.refusedF t bt).1 = ee at *
    generalize hpp : (Pv.refusedF t bt).2 = pp at *
    have HEE := hide hee
    have HPP := hide hpp
    clear hee hpp
    have hne' : (ee != 0) = true := by simp [hne]
    clear hne
    have B2 := hide (B1.out.alloc B1.out.size (.cells #[.slice none 0 0] 106))
    go_wp2
    go_ret3
    have hv := HH.out.below B2.out
    refine ⟨But.ofBelow B2.out, none, 0, 0, xt, t.length, ct, [], ?_, OwnQ.nil _ _, HAP.out.symm, hv.blk, .inl ?_⟩
    · rw [HEE.out, HPP.out]; rfl
    · rw [HEE.out]; exact ⟨HNE.out, rfl⟩
  · have H0 := hide h0
    have H02 := hide (refused2 h0)
    have O1 := hide own1
    have HT2 := hide (HH.out.inv.next h0).1
    have HEQ := hide (Pv.toldP_eq (q := Q) HH.out.inv h0)
    clear own1 h0
    have HV1 := hide (HH.out.below B1.out)
    go_upto_region 2 with fail
    have D2 := hide (heap_alloc_new w1 (.cells #[.slice x1 n1 c1] 106))
    have b2 := hide ((Below.refl w1.heap.size w1).alloc (Nat.le_refl _) (.cells #[.slice x1 n1 c1] 106))
    have hs2 : w1.heap.size < (w1.alloc (.cells #[.slice x1 n1 c1] 106)).heap.size := by simp
    generalize w1.alloc (.cells #[.slice x1 n1 c1] 106) = w2 at *
    have B2 := hide (B1.out.trans (b2.out.mono B1.out.size))
    have HV2 := hide (HV1.out.below b2.out)
    have O2 := hide (own_below O1.out b2.out)
    generalize w1.heap.size = ba at *
    have a0 : w2.cell? ⟨ba, 0, none⟩ = some (.slice x1 n1 c1) := cell_of_heap D2.out 0
    go_wp2_with fail
    refine (xshown_any HV2.out (RdC.ofOwn O2.out) HT2.out).mono ?_
    rintro e w3 ⟨e3, x3, n3, c3, rfl, own3⟩
    have B3 := hide (B2.out.trans (e3.mono B2.out.size))
    have HV3 := hide (HV2.out.below e3)
    have O3 := hide (own_below O2.out e3)
    have M3 := hide own3
    have HA3 : Hid (w3.heap[ba]? = some (.cells #[.slice x1 n1 c1] 106 (0, 0))) := (e3.block _ hs2).trans D2.out
    clear e3 own3 a0 HV1 HV2 O1 O2 D2 b2 B2
    have q6 : w3.cell? ⟨gx, 6, none⟩ = some (.slice xt t.length ct) := cell_of_heap HV3.out.blk 6
    go_wp2_with fail
    refine (xshown_any HV3.out HV3.out.rt HV3.out.inv).mono ?_
    rintro e w4 ⟨e4, x4, n4, c4, rfl, own4⟩
    have B4 := hide (B3.out.trans (e4.mono B3.out.size))
    have HV4 := hide (HV3.out.below e4)
    have O4 := hide (own_below O3.out e4)
    have M4 := hide (M3.out.rd.below e4)
    have F4 := hide own4
    have HA4 : Hid (w4.heap[ba]? = some (.cells #[.slice x1 n1 c1] 106 (0, 0))) := (e4.block _ (Array.getElem?_eq_some_iff.1 HA3.out).1).trans HA3.out
    clear e4 own4 q6 HV3 O3 HA3 M3 B3
    have a0 : w4.cell? ⟨ba, 0, none⟩ = some (.slice x1 n1 c1) := cell_of_heap HA4.out 0
    have q6 : w4.cell? ⟨gx, 6, none⟩ = some (.slice xt t.length ct) := cell_of_heap HV4.out.blk 6
    have f6 := free_of_heap HV4.out.blk 6
    have HSM1 := hide (outs_small HV4.out.q HT2.out)
    have HSM2 := hide (outs_small HV4.out.q HV4.out.inv)
    have HOK1 := hide (Pv.outsP_ok Q (Pv.linesP Q.ks Q.cs (Pv.tableF t bt)))
    have HOK2 := hide (Pv.outsP_ok Q (Pv.linesP Q.ks Q.cs t))
    have HTP : Hid (Pv.toldP Q t (Pv.tableF t bt) = (Pv.addAll (-1) (Pv.outsP Q (Pv.linesP Q.ks Q.cs t)) (Pv.addAll 1 (Pv.outsP Q (Pv.linesP Q.ks Q.cs (Pv.tableF t bt))) [])).filter nzO) := rfl
    generalize Pv.outsP Q (Pv.linesP Q.ks Q.cs (Pv.tableF t bt)) = os1 at *
    generalize Pv.outsP Q (Pv.linesP Q.ks Q.cs t) = os2 at *
    go_upto_region 7 with fail
    have hgT : ∀ k, some gx = some k → ∃ cur T' fz, w4.heap[k]? = some (.cells cur T' fz) ∧ T' ≠ 52 ∧ T' ≠ 55 := fun k hk => by
      cases hk; exact ⟨_, _, _, HV4.out.blk, by decide, by decide⟩
    have hS6 := hide (set6 HV4.out.blk (.slice x1 n1 c1))
    have M5 := hide (M4.out.kept (grown_set w4 gx 6 (.slice x1 n1 c1)) hgT)
    have F5 := hide (F4.out.rd.kept (grown_set w4 gx 6 (.slice x1 n1 c1)) hgT)
    have hbw := B1.out.size
    have O5 := hide (own_set_far (b := gx) (j := 6) (x := .slice x1 n1 c1) O4.out (fun k hk => by have := (O4.out.lt k hk).1; omega))
    have BU5 := hide ((But.ofBelow (S := fun k => k = gx) B4.out).setIn gx 6 (.slice x1 n1 c1) (fun _ => rfl))
    clear a0 q6 f6 hgT M4 F4 O4 HV4 HA4
    generalize w4.setCell ⟨gx, 6, none⟩ (.slice x1 n1 c1) = w5 at *
    go_upto_region 8 with fail
    have D6 := hide (heap_alloc_new w5 (.cells #[.slice none 0 0] 118))
    have b6 := hide ((Below.refl w5.heap.size w5).alloc (Nat.le_refl _) (.cells #[.slice none 0 0] 118))
    generalize w5.alloc (.cells #[.slice none 0 0] 118) = w6 at *
    have hfl := HFL.out
    have hsm1 : 0 + os1.length ≤ 1000000 := by have := HSM1.out; omega
    go_wp2_with fail
    refine (oAdd_any (d := Q.fs.length) (m := 0) (P := []) D6.out (OwnP.nil _ _) (Nat.le_refl _) b6.out.size (Pv.SumOk.nil _) (fun W hW => M5.out.below (b6.out.trans hW)) HOK1.out hfl hsm1).mono ?_
    rintro e w7 ⟨rfl, e7, v7, P7, hb7, hP7, hm7⟩
    have hS7 := (Pv.SumOk.all (d := Q.fs.length) (sign := 1) (.inl rfl) os1 (Pv.SumOk.nil Q.fs.length) HOK1.out).1
    have HM7 : Hid (P7.map (·.1) = Pv.addAll 1 os1 []) := hm7
    rw [← HM7.out] at hS7
    have HS7 := hide hS7
    have HB7 := hide hb7
    have HP7 := hide hP7
    have b7 := hide (b6.out.trans e7)
    have hsm2 : 0 + os1.length + os2.length ≤ 1000000 := by have := HSM1.out; have := HSM2.out; omega
    clear e7 hb7 hP7 hm7 hS7
    go_wp2_with fail
    refine (oTake_any (d := Q.fs.length) (m := 0 + os1.length) (P := P7) HB7.out HP7.out (Nat.le_refl _) b7.out.size HS7.out (fun W hW => F5.out.below (b7.out.trans hW)) HOK2.out hfl hsm2).mono ?_
    rintro e w8 ⟨rfl, e8, v8, P8, hb8, hP8, hm8⟩
    have hS8 := (Pv.SumOk.all (d := Q.fs.length) (sign := -1) (.inr rfl) os2 HS7.out HOK2.out).1
    have HM8 : Hid (P8.map (·.1) = Pv.addAll (-1) os2 (Pv.addAll 1 os1 [])) := by
      show _ = _
      rw [hm8, HM7.out]
    rw [HM7.out, ← HM8.out] at hS8
    have HD8 : Hid (∀ x ∈ P8, x.1.2.1.length ≤ 1000) := fun x hx => by
      have := hS8.vals x.1 (List.mem_map.2 ⟨x, hx, rfl⟩)
      omega
    have HL8 : Hid (P8.length ≤ 1000000) := by
      show _ ≤ _
      have h1 := hS8.len
      rw [List.length_map] at h1
      omega
    have HB8 := hide hb8
    have HP8 := hide hP8
    have b8 := hide (b7.out.trans e8)
    clear e8 hb8 hP8 hm8 hS8
    go_wp2_with fail
    refine (oList_any HB8.out HP8.out HD8.out HL8.out).mono ?_
    rintro e w9 ⟨e9, u, P9, rfl, hq9, hm9⟩
    have HQ9 := hide hq9
    obtain ⟨x9, n9, c9, rfl⟩ := own_sl hq9.row
    have HM9 : Hid (P9.map (·.1) = Pv.appliedF Q t bt) := by
      show _ = _
      rw [← HEQ.out, HTP.out, hm9, HM8.out]
    have b9 := hide (b8.out.trans (e9.mono b8.out.size))
    have hs9 := b8.out.size
    clear e9 hq9 hm9
    go_wp2
    go_ret3
    refine ⟨BU5.out.of b9.out, x9, n9, c9, x1, n1, c1, P9, ?_, HQ9.out.base (Nat.le_trans BU5.out.size hs9), HM9.out, (b9.out.block _ (Nat.lt_of_lt_of_le hgl BU5.out.size)).trans hS6.out, .inr ⟨H0.out, own_below O5.out b9.out⟩⟩
    rw [H0.out, H02.out]; rfl
end Go.Proofs.YtcoofnhdbejnpaaGreatDoor

/- Package paneskeep: copies, lists that read alike. -/
namespace Go.Proofs.YtcoofnhdbejnpaaGreatDoor
open Go.RowKit
def krv (r : Pv.R3) : Value := .agg #[.int .i64 r.1, .int .i64 r.2.1, .int .i64 r.2.2]
set_option maxHeartbeats 1000000 in
theorem ksameRow_eq (r : Pv.R3) (w : World) : Calls Tryz.prog 20 #[krv r, krv r] w fun e w' => e = .returned (.bool true) ∧ Below w.heap.size w w' := by
  obtain ⟨p, u, v⟩ := r
  unfold krv
  simp only
  go_enter Tryz.func20, Tryz.ntmps20
  go_wp2
  go_ret
  exact ⟨by simp, ((Below.refl _ _).alloc (Nat.le_refl _) _).alloc (by simp) _⟩
set_option maxRecDepth 100000 in
set_option maxHeartbeats 1000000 in
theorem ksameVals_eq {w : World} {l : List Pv.Val} {sa sb : Value} (ha : RdV w sa l) (hb : RdV w sb l) (hl : l.length ≤ 1000000) :
    Calls Tryz.prog 21 #[sa, sb] w fun e w' => e = .returned (.bool true) ∧ Below w.heap.size w w' := by
  obtain ⟨xa, ca, rfl⟩ := RdG.sl ha
  obtain ⟨xb, cb, rfl⟩ := RdG.sl hb
  have HA := hide ha
  have HB := hide hb
  clear ha hb
  go_enter Tryz.func21, Tryz.ntmps21
  go_wp2
  go_loopw [5] (fun i wr => ∃ k m : Nat, k ≤ l.length ∧ i = .int .i64 k ∧ wr = w.drewN m) (fun i _ => l.length - (intOf i).toNat)
  case atStart => exact ⟨0, 0, by omega, rfl, rfl⟩
  case round =>
    obtain ⟨k, m, hk, rfl, rfl⟩ := hrel
    by_cases hkl : k < l.length
    · have hkl' : (k : Int) < (l.length : Int) := by omega
      obtain ⟨ga, offa, ca', ea, _⟩ := RdG.form1 HA.out (by omega)
      obtain ⟨gb, offb, cb', eb, _⟩ := RdG.form1 HB.out (by omega)
      cases ea
      cases eb
      obtain ⟨d0, d1⟩ := HA.out.cell k hkl
      obtain ⟨d2, d3⟩ := HB.out.cell k hkl
      generalize l[k].isSome = ok at *
      generalize l[k].getD 0 = n at *
      cases ok
      all_goals
        go_wp2
        go_quiet (fail)
        go_wp2
        go_roundw
        case rel => exact ⟨k + 1, m + nq, by omega, by go_num, rfl⟩
        case measure => simp [intOf]; omega
    · have hkl' : ¬ (k : Int) < (l.length : Int) := by omega
      go_wp2
      go_ret
      exact ⟨rfl, below_drewM (Below.refl _ _) _⟩
end Go.Proofs.YtcoofnhdbejnpaaGreatDoor

/- Plain mathematics: what a query of the maker's is read as; a view of it. -/
namespace Go.Proofs.YtcoofnhdbejnpaaGreatDoor
open Go.RowKit
namespace Pk
open Pq (Bytes Tok PS)
/-- the query that is shown -/
def qryOf (q : Ast) : Pv.Qry := ⟨q.by', q.keys, q.funcs, (match q.top with | some (a, _) => (a : Int) | none => -1), (match q.top with | some (_, b) => (b : Int) | none => 0)⟩
theorem edgeOk_of (e : Pq.Edge) (h : GoodEdge e) : EdgeOk e := ⟨h.kind, h.num.1, by have := h.num.2; omega⟩
theorem frameOk_of (f : Pq.Frame) (h : GoodFrame f) : FrameOk f := by
  have z : EdgeOk e0 := ⟨by decide, by decide, by decide⟩
  induction f, h using GoodFrame_ind with
  | all => exact ⟨by decide, by decide, by decide, z, z⟩
  | peers => exact ⟨by decide, by decide, by decide, z, z⟩
  | near n h => exact ⟨by simp only []; omega, by simp only []; omega, by simp only []; omega, z, z⟩
  | between a b ha hb => exact ⟨by simp only []; omega, by simp only []; omega, by simp only []; omega, edgeOk_of a ha, edgeOk_of b hb⟩
theorem fnOk_of (f : Pq.Fn) (h : GoodFn f) : FnOk f := by
  have z : EdgeOk e0 := ⟨by decide, by decide, by decide⟩
  have zf : FrameOk Pq.fr0 := ⟨by decide, by decide, by decide, ⟨by decide, by decide, by decide⟩, ⟨by decide, by decide, by decide⟩⟩
  induction f, h using GoodFn_ind with
  | plain k h => exact ⟨by simp only []; omega, by simp only []; omega, by simp only []; omega, by simp only []; omega, by simp only []; omega, zf⟩
  | tile n h h0 => exact ⟨by simp only []; omega, by simp only []; omega, by simp only []; omega, by simp only []; omega, by simp only []; omega, zf⟩
  | lag k c n hk hc h => exact ⟨by simp only []; omega, hc, by simp only []; omega, by simp only []; omega, by simp only []; omega, zf⟩
  | over k c f h6 hk hc hf => exact ⟨hk, hc, by simp only []; omega, by simp only []; omega, by simp only []; omega, frameOk_of f hf⟩
end Pk
theorem QX.of {w : World} {B : Nat} {vb vk vf : Value} {q : Pk.Ast} (hq : Pk.GoodAst q) {n : Nat} {s : Pq.PS} (hs : s = Pk.astPS q n true) (o1 : w.ownsRow B 215 1 vb s.by'.length (colCells s.by')) (o2 : w.ownsRow B 253 2 vk s.keys.length (keyCells s.keys)) (o3 : w.ownsRow B 223 9 vf s.funcs.length (fnCells s.funcs)) (l1 : s.by'.length ≤ 301) (l2 : s.keys.length ≤ 301) : QX w vb vk vf s.hasTop s.top s.frm (Pk.qryOf q) := by
  subst hs
  have hfl := hq.fl
  refine ⟨RdG.ofOwn o1, RdG.ofOwn o2, RdG.ofOwn o3, Nat.le_trans l1 (by omega), hq.byL, Nat.le_trans l2 (by omega), fun k hk => hq.keys.lt k hk, hq.keys.ne, Nat.le_trans hfl (by omega), fun f hf => Pk.fnOk_of f (hq.fg f hf), ?_, ?_, ?_, ?_, ?_, ?_, ?_⟩
  all_goals
    have ht := hq.top
    unfold Pk.astPS
    try unfold Pk.qryOf
    cases hc : q.top with
    | none => simp
    | some x =>
      obtain ⟨a, b⟩ := x
      have := ht a b hc
      simp <;> omega
/-- a view just begun -/
def BegPost (w : World) (q : Pk.Ast) (e : Ending) (w' : World) : Prop :=
  Below w.heap.size w w' ∧ ∃ g vb vk vf has tp fr, e = .returned (.tuple #[.pointer (some ⟨g, 0, none⟩), .bool true]) ∧ w.heap.size ≤ g ∧ XV w' g vb vk vf has tp fr (.slice none 0 0) (Pk.qryOf q) []
set_option maxHeartbeats 1000000 in
theorem begin_any {s : ByteArray} {q : Pk.Ast} {n : Nat} (hs : s.size ≤ maxLen) (hq : Pk.GoodAst q) (hr : Pq.readE s.data.toList = 0) (he : Pq.endPS s.data.toList = Pk.astPS q n true) (w : World) :
    Calls Tryz.prog 16 #[.string s] w fun e w' => BegPost w q e w' := by
  have HQ := hide hq
  have HR := hide hr
  have HE := hide he
  clear hq hr he
  go_enter Tryz.func16, Tryz.ntmps16
  go_wp2_with fail
  refine (new_any s w hs).mono ?_
  rintro e w1 ⟨b1, ⟨hne, _⟩ | ⟨_, g, vb, vk, vf, hg, hg2, rfl, hblk, o1, o2, o3, l1, l2, l3⟩⟩
  · exact absurd HR.out hne
  · have XX : Hid (XV w1 g vb vk vf (Pq.endPS s.data.toList).hasTop (Pq.endPS s.data.toList).top (Pq.endPS s.data.toList).frm (.slice none 0 0) (Pk.qryOf q) []) := ⟨hblk, QX.of HQ.out HE.out o1 o2 o3 l1 l2, RdC.ofOwn (B := 0) (n := 0) (World.ownsRow_nil _ _ _ _), Pv.TInv.nil⟩
    have B1 := hide b1
    clear hblk o1 o2 o3 l1 l2 l3 b1
    go_wp2
    go_ret2
    exact ⟨B1.out, g, _, _, _, _, _, _, rfl, hg, XX.out⟩
end Go.Proofs.YtcoofnhdbejnpaaGreatDoor

/- A view and the counts beside each other: a batch made, a batch applied. -/
namespace Go.Proofs.YtcoofnhdbejnpaaGreatDoor
open Go.RowKit
/-- the blocks that turn are of none of these types -/
def Off (S : Nat → Prop) (w : World) (p : Nat → Prop) : Prop := ∀ k, S k → k < w.heap.size → ∃ cur T fz, w.heap[k]? = some (.cells cur T fz) ∧ ¬ p T
theorem Off.ne {S : Nat → Prop} {w : World} {p : Nat → Prop} (h : Off S w p) {k T : Nat} {cur : Array Value} {fz : Nat × Nat} (hk : w.heap[k]? = some (.cells cur T fz)) (hT : p T) : ¬ S k := fun hs => by
  obtain ⟨c, T', f, e, hn⟩ := h k hs (Array.getElem?_eq_some_iff.1 hk).1
  rw [hk] at e
  cases e
  exact hn hT
theorem RdG.but {T sz : Nat} {w w' : World} {v : Value} {n : Nat} {cs : List Value} (h : RdG T sz w v n cs) {S : Nat → Prop} {p : Nat → Prop} (hb : But S w w') (ho : Off S w p) (hT : p T) : RdG T sz w' v n cs := by
  refine ⟨h.1, ?_⟩
  rcases h.2 with h | ⟨g, off, cap, cur, fz, h1, h2, h3, h4⟩
  · exact .inl h
  · exact .inr ⟨g, off, cap, cur, fz, h1, h2, (hb.block g (Array.getElem?_eq_some_iff.1 h3).1 (ho.ne h3 hT)).trans h3, h4⟩
theorem RdC.but {w w' : World} {v : Value} {l : List Pv.Chg} (h : RdC w v l) {S : Nat → Prop} {p : Nat → Prop} (hb : But S w w') (ho : Off S w p) (hT : p 50) : RdC w' v l := by
  rcases h with h | ⟨g, off, cap, cur, fz, h1, h2, h3, h4⟩
  · exact .inl h
  · exact .inr ⟨g, off, cap, cur, fz, h1, h2, (hb.block g (Array.getElem?_eq_some_iff.1 h3).1 (ho.ne h3 hT)).trans h3, h4⟩
theorem RdO.but {w w' : World} {v : Value} {l : List Pv.Out} (h : RdO w v l) {S : Nat → Prop} {p : Nat → Prop} (hb : But S w w') (ho : Off S w p) (h1 : p 52) (h2 : p 55) : RdO w' v l := by
  obtain ⟨vs, hv, hr⟩ := h
  refine ⟨vs, ⟨hv.1, fun j hj hj2 => ?_⟩, RdG.but hr hb ho h2⟩
  exact RdG.but (hv.2 j hj hj2) hb ho h1
theorem QX.but {w w' : World} {vb vk vf : Value} {has : Bool} {tp fr : Int} {Q : Pv.Qry} (h : QX w vb vk vf has tp fr Q) {S : Nat → Prop} {p : Nat → Prop} (hb : But S w w') (ho : Off S w p) (h1 : p 215) (h2 : p 253) (h3 : p 223) : QX w' vb vk vf has tp fr Q :=
  ⟨RdG.but h.rb hb ho h1, RdG.but h.rk hb ho h2, RdG.but h.rf hb ho h3, h.bl, h.bc, h.kl, h.kc, h.k0, h.fl, h.fo, h.t0, h.t1, h.f0, h.f1, h.fr', h.tt, h.tf⟩
/-- lists that were handed out are as they were -/
structure Kp (w w' : World) : Prop where
  o : ∀ v l, RdO w v l → RdO w' v l
  c : ∀ v l, RdC w v l → RdC w' v l
theorem Kp.refl (w : World) : Kp w w := ⟨fun _ _ h => h, fun _ _ h => h⟩
theorem Kp.trans {w w1 w2 : World} (h : Kp w w1) (k : Kp w1 w2) : Kp w w2 := ⟨fun v l q => k.o v l (h.o v l q), fun v l q => k.c v l (h.c v l q)⟩
theorem Kp.below {w w1 : World} (hb : Below w.heap.size w w1) : Kp w w1 := ⟨fun _ _ q => q.below hb, fun _ _ q => q.below hb⟩
theorem Kp.but {w w1 : World} {S : Nat → Prop} {p : Nat → Prop} (hb : But S w w1) (ho : Off S w p) (h1 : p 52) (h2 : p 55) (h3 : p 50) : Kp w w1 := ⟨fun _ _ q => q.but hb ho h1 h2, fun _ _ q => q.but hb ho h3⟩
/-- the types of the counts' blocks -/
def pC (T : Nat) : Prop := T ≠ 66 ∧ T ≠ 48 ∧ T ≠ 3
theorem CM.off {w : World} {bc B : Nat} {vr vn : Value} {cs : List Pv.Chg} {all : Int} (h : CM w bc B vr vn cs all) : Off (CS bc vr vn) w pC := fun k hk _ => by
  obtain ⟨_, cur, T, fz, e, ht⟩ := h.kind k hk
  refine ⟨cur, T, fz, e, fun hp => ?_⟩
  rcases ht with q | q | q
  · exact hp.1 q
  · exact hp.2.1 q
  · exact hp.2.2 q
theorem XV.butC {w w' : World} {bc B gx : Nat} {vr vn vb vk vf vt : Value} {cs : List Pv.Chg} {all : Int} {has : Bool} {tp fr : Int} {Q : Pv.Qry} {t : List Pv.Chg} (h : XV w gx vb vk vf has tp fr vt Q t) (hc : CM w bc B vr vn cs all) (hb : But (CS bc vr vn) w w') : XV w' gx vb vk vf has tp fr vt Q t :=
  ⟨(hb.block gx (Array.getElem?_eq_some_iff.1 h.blk).1 (hc.off.ne h.blk (by unfold pC; decide))).trans h.blk, h.q.but hb hc.off (by unfold pC; decide) (by unfold pC; decide) (by unfold pC; decide), h.rt.but hb hc.off (by unfold pC; decide), h.inv⟩
theorem XV.offX {w : World} {gx : Nat} {vb vk vf vt : Value} {has : Bool} {tp fr : Int} {Q : Pv.Qry} {t : List Pv.Chg} (h : XV w gx vb vk vf has tp fr vt Q t) : Off (fun k => k = gx) w (fun T => T ≠ 114) := fun k hk _ => by
  subst hk
  exact ⟨_, _, _, h.blk, fun hn => hn rfl⟩
/-- a view with the table t, and the counts that say the same -/
def UM (N : Nat) (w wr : World) (bc gx : Nat) (Q : Pv.Qry) (cs : List Pv.Chg) (all : Int) (t : List Pv.Chg) : Prop :=
  Below N w wr ∧ N ≤ bc ∧ N ≤ gx ∧ N ≤ w.heap.size ∧ Pk.CInv cs all ∧ Pk.Same t cs ∧ ∃ vr vn vb vk vf has tp fr vt, CM wr bc N vr vn cs all ∧ XV wr gx vb vk vf has tp fr vt Q t
/-- behind a batch: the counts are ahead -/
def UB (N : Nat) (w wr : World) (bc gx : Nat) (Q : Pv.Qry) (cs : List Pv.Chg) (all : Int) (t : List Pv.Chg) (l : Pq.Bytes) : Prop :=
  Below N w wr ∧ N ≤ bc ∧ N ≤ gx ∧ N ≤ w.heap.size ∧ Pk.CInv cs all ∧ Pk.Same t cs ∧ ∃ vr vn vb vk vf has tp fr vt, CM wr bc N vr vn (Pk.batchF l cs all).cs (Pk.batchF l cs all).all ∧ XV wr gx vb vk vf has tp fr vt Q t
theorem CM.ge {w : World} {bc N : Nat} {vr vn : Value} {cs : List Pv.Chg} {all : Int} (h : CM w bc N vr vn cs all) (hN : N ≤ bc) : ∀ k, k < N → ¬ CS bc vr vn k := fun k hk hc => by
  rcases hc with q | q | q
  · omega
  · have := (own_at h.rr q).1; omega
  · have := (own_at h.rn q).1; omega
theorem But.near {S : Nat → Prop} {N : Nat} {w w1 w2 : World} (h : Below N w w1) (hN : N ≤ w.heap.size) (hb : But S w1 w2) (hS : ∀ k, k < N → ¬ S k) : Below N w w2 := h.trans (hb.below hS (Nat.le_trans hN h.size))
def UBPost (N : Nat) (w wr : World) (bc gx : Nat) (Q : Pv.Qry) (cs : List Pv.Chg) (all : Int) (t : List Pv.Chg) (l : Pq.Bytes) (e : Ending) (w' : World) : Prop :=
  ∃ x n c, e = .returned (.slice x n c) ∧ UB N w w' bc gx Q cs all t l ∧ RdC w' (.slice x n c) (Pk.batchF l cs all).l ∧ Kp wr w'
theorem UM.batch {N : Nat} {w wr : World} {bc gx : Nat} {Q : Pv.Qry} {cs : List Pv.Chg} {all : Int} {t : List Pv.Chg} (h : UM N w wr bc gx Q cs all t) {s : ByteArray} (hs : s.size ≤ maxLen) :
    Calls Tryz.prog 24 #[.pointer (some ⟨bc, 0, none⟩), .string s] wr fun e w' => UBPost N w wr bc gx Q cs all t s.data.toList e w' := by
  obtain ⟨hb, hN1, hN2, hN3, hI, hS, vr, vn, vb, vk, vf, has, tp, fr, vt, hc, hx⟩ := h
  refine (batch_any hc hI (Nat.le_trans hN3 hb.size) hs).mono ?_
  rintro e w' ⟨bu, x, n, c, vr', vn', rfl, own, cm, o1, o2⟩
  exact ⟨x, n, c, rfl, ⟨But.near hb hN3 bu (hc.ge hN1), hN1, hN2, hN3, hI, hS, vr', vn', vb, vk, vf, has, tp, fr, vt, cm, hx.butC hc bu⟩, RdC.ofOwn own, Kp.but bu hc.off (by unfold pC; decide) (by unfold pC; decide) (by unfold pC; decide)⟩
theorem UM.below {N : Nat} {w wr w1 : World} {bc gx : Nat} {Q : Pv.Qry} {cs : List Pv.Chg} {all : Int} {t : List Pv.Chg} (h : UM N w wr bc gx Q cs all t) (hb1 : Below wr.heap.size wr w1) : UM N w w1 bc gx Q cs all t := by
  obtain ⟨hb, hN1, hN2, hN3, hI, hS, vr, vn, vb, vk, vf, has, tp, fr, vt, hc, hx⟩ := h
  exact ⟨hb.trans (hb1.mono (Nat.le_trans hN3 hb.size)), hN1, hN2, hN3, hI, hS, vr, vn, vb, vk, vf, has, tp, fr, vt, hc.below hb1, hx.below hb1⟩
/-- Rows and Table, as lists that can be read -/
def RowsPost (w : World) (l : List Pv.Out) (e : Ending) (w' : World) : Prop := Below w.heap.size w w' ∧ ∃ x n c, e = .returned (.slice x n c) ∧ RdO w' (.slice x n c) l
theorem xrows_rd {w : World} {gx : Nat} {vb vk vf vt : Value} {has : Bool} {tp fr : Int} {Q : Pv.Qry} {t : List Pv.Chg} (h : XV w gx vb vk vf has tp fr vt Q t) :
    Calls Tryz.prog 19 #[.pointer (some ⟨gx, 0, none⟩)] w fun e w' => RowsPost w (Pv.rowsF Q t) e w' := by
  refine (xrows_any h).mono ?_
  rintro e w' ⟨hb, u, P, rfl, hq, hm⟩
  obtain ⟨x, n, c, rfl⟩ := own_sl hq.row
  refine ⟨hb, x, n, c, rfl, ?_⟩
  rw [← hm]
  exact hq.toP.toO.rd
end Go.Proofs.YtcoofnhdbejnpaaGreatDoor

