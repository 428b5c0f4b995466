/- Package paneskeep: Firm answers true. -/
import Derived.Test.YtcoofnhdbejnpabGreatDoorG41
import Derived.Test.YtcoofnhdbejnpabGreatDoorG42
import Derived.Test.YtcoofnhdbejnpabGreatDoorG45
import Derived.Test.YtcoofnhdbejnpabGreatDoorG40
import Derived.Test.YtcoofnhdbejnpabGreatDoorRows
import Derived.ProofKit
import Derived.LaidMore
import Derived.OpenShut
import Derived.ShutString
import Derived.Stop.Joined
import Derived.Deep.Slices
import Derived.WideKeyArgs
import Derived.Test.YtcoofnhdbejnpabGreatDoorCards
import Derived.Test.YtcoofnhdbejnpabGreatDoorTie
import Derived.SevenTiedAt
namespace Go.Proofs.YtcoofnhdbejnpabGreatDoor
open Go.RowKit
theorem wrapOne2 {n : Int} (h1 : -320000 ≤ n) (h2 : n ≤ 320000) : IntKind.i64.wrap (1 * n) = 1 * n := wrap_id2 (by omega) (by omega)
theorem UM.start2 {w w1 w2 : World} {gx : Nat} {vb vk vf : Value} {has : Bool} {tp fr : Int} {Q : Pv.Qry} (hb : Below w.heap.size w w1) (hg : w.heap.size ≤ gx) (hx : XV w1 gx vb vk vf has tp fr (.slice none 0 0) Q []) (hw : w2 = w1.alloc (.cells #[.slice none 0 0, .slice none 0 0, .int .i64 0] 33)) : UM w.heap.size w w2 w1.heap.size gx Q [] 0 [] := by
  subst hw
  have hb2 := (Below.refl w1.heap.size w1).alloc (Nat.le_refl _) (.cells #[.slice none 0 0, .slice none 0 0, .int .i64 0] 33)
  exact ⟨hb.alloc hb.size _, hb.size, hg, Nat.le_refl _, Pk.CInv.nil, fun r => rfl, .slice none 0 0, .slice none 0 0, vb, vk, vf, has, tp, fr, .slice none 0 0, ⟨heap_alloc_new w1 _, World.ownsRow_nil _ _ _ _, World.ownsRow_nil _ _ _ _⟩, hx.below hb2⟩
def UMy (N : Nat) (w wr : World) (bc gx : Nat) (Q : Pv.Qry) : Prop := ∃ cs all t, UM N w wr bc gx Q cs all t
/-- a view, the counts' block, lists that came out -/
structure FS (w wr : World) (gx bc : Nat) (Q : Pv.Qry) (t : List Pv.Chg) (all : Int) (cb : Obj) (vl vt : Value) : Prop where
  b : Below w.heap.size w wr
  x : XVx wr gx Q t
  k : wr.heap[bc]? = some cb
  l : RdO wr vl (Pv.rowsF Q t)
  t : RdC wr vt t
  ne : bc ≠ gx
  ge : w.heap.size ≤ gx
theorem FS.below {w wr w1 : World} {gx bc : Nat} {Q : Pv.Qry} {t : List Pv.Chg} {all : Int} {cb : Obj} {vl vt : Value} (h : FS w wr gx bc Q t all cb vl vt) (hb : Below wr.heap.size wr w1) : FS w w1 gx bc Q t all cb vl vt :=
  ⟨h.b.trans (hb.mono h.b.size), h.x.below hb, (hb.block bc (Array.getElem?_eq_some_iff.1 h.k).1).trans h.k, h.l.below hb, h.t.below hb, h.ne, h.ge⟩
theorem FS.but {w wr w1 : World} {gx bc : Nat} {Q : Pv.Qry} {t : List Pv.Chg} {all : Int} {cb : Obj} {vl vt : Value} (h : FS w wr gx bc Q t all cb vl vt) (hb : But (fun k => k = gx) wr w1) (hx : XVx w1 gx Q t) : FS w w1 gx bc Q t all cb vl vt := by
  have kp := Kp.but hb h.x.off' (by decide) (by decide) (by decide)
  exact ⟨But.near h.b (Nat.le_refl _) hb (fun k hk e => by have := h.ge; omega), hx, (hb.block bc (Array.getElem?_eq_some_iff.1 h.k).1 h.ne).trans h.k, kp.o _ _ h.l, kp.c _ _ h.t, h.ne, h.ge⟩
theorem XVx.tab9 {w : World} {gx : Nat} {Q : Pv.Qry} {t : List Pv.Chg} (h : XVx w gx Q t) :
    Calls Tryz.prog 11 #[.pointer (some ⟨gx, 0, none⟩)] w fun e w' => TabRd w t e w' := by
  obtain ⟨vb, vk, vf, has, tp, fr, vt, h⟩ := h
  exact xtable_rd h
/-- a batch that changes nothing -/
def QuPost (wr : World) (gx : Nat) (Q : Pv.Qry) (t : List Pv.Chg) (e : Ending) (w' : World) : Prop := (∃ x c, e = .returned (.tuple #[.slice x 0 c, .int .i64 0, .int .i64 0])) ∧ But (fun k => k = gx) wr w' ∧ XVx w' gx Q t
theorem quiet_any {wr : World} {gx : Nat} {Q : Pv.Qry} {t bt : List Pv.Chg} {v : Value} (h : XVx wr gx Q t) (hv : RdC wr v bt) (hl : bt.length ≤ 50) (hq : Pv.refusedF t bt = (0, 0) ∧ Pv.tableF t bt = t ∧ ∀ q, Pv.appliedF q t bt = []) :
    Calls Tryz.prog 8 #[.pointer (some ⟨gx, 0, none⟩), v] wr fun e w' => QuPost wr gx Q t e w' := by
  refine (xapply_x h hv hq.1 hl).mono ?_
  rintro e w' ⟨x, n, c, rfl, bu, xv, ro, _⟩
  rw [hq.2.1] at xv
  rw [hq.2.2 Q] at ro
  obtain ⟨x2, c2, e2⟩ := ro.sl
  cases e2
  exact ⟨⟨x, c, rfl⟩, bu, xv⟩
set_option maxRecDepth 100000 in
set_option maxHeartbeats 4000000 in
theorem firm_walk (s : ByteArray) (b t0 : Bool) (vs : Value) (len : Nat) (S : Nat → ByteArray) (w : World) (hs : s.size ≤ maxLen) (hl : len ≤ 1000000000000000)
    (hv : (vs = .slice none 0 0 ∧ len = 0) ∨ ∃ a cap, vs = .slice (some a) len cap ∧ ∀ i, i < len → a.block < w.heap.size ∧ w.cell? (a.add i) = some (.string (S i)) ∧ (S i).size ≤ maxLen) :
    Calls Tryz.prog 3 #[.string s, .bool b, .bool t0, vs] w fun e w' => e = .returned (.bool true) ∧ Below w.heap.size w w' := by
  have HA := hide (Pk.reads_math s.data.toList b t0)
  obtain ⟨xv, cv, rfl⟩ : ∃ x c, vs = .slice x len c := by
    rcases hv with ⟨h1, h2⟩ | ⟨a, c, h1, _⟩
    · exact ⟨none, 0, by rw [h1, h2]⟩
    · exact ⟨_, _, h1⟩
  have HV := hide hv
  clear hv
  go_enter Tryz.func3, Tryz.ntmps3
  go_wp2_with fail
  refine (query_any s b t0 _ hs).mono ?_
  rintro e w1 ⟨rfl, b1⟩
  generalize Pk.queryS s.data.toList b t0 = x at *
  obtain ⟨q, hq, ⟨hr, n, he⟩, _, hln⟩ := HA.out
  have l1 : x.raw.length ≤ 300 := hln.1
  have HQ := hide hq
  have HR := hide hr
  have HE := hide he
  have B1 := hide b1
  clear b1 hq hr he HA hln
  go_upto_region 2 with fail
  have D2 := hide (heap_alloc_new w1 (.cells #[.string ⟨x.raw.toArray⟩, .string ⟨x.plain.toArray⟩] 24))
  have B2 := hide (B1.out.alloc B1.out.size (.cells #[.string ⟨x.raw.toArray⟩, .string ⟨x.plain.toArray⟩] 24))
  generalize w1.alloc (.cells #[.string ⟨x.raw.toArray⟩, .string ⟨x.plain.toArray⟩] 24) = w2 at *
  generalize w1.heap.size = bx at *
  have c0 : w2.cell? ⟨bx, 0, none⟩ = some (.string ⟨x.raw.toArray⟩) := cell_of_heap D2.out 0
  go_wp2_with fail
  refine (begin_any (s := ⟨x.raw.toArray⟩) (n := n) (by show x.raw.toArray.size ≤ maxLen; unfold maxLen; simp; omega) HQ.out HR.out HE.out w2).mono ?_
  rintro e w3 ⟨b3, g, vb, vk, vf, has, tp, fr, rfl, hg, hx⟩
  have B3 := hide (B2.out.trans (b3.mono B2.out.size))
  have hg' : w.heap.size ≤ g := Nat.le_trans B2.out.size hg
  have X3 := hide hx
  clear b3 hx c0 D2 hg B1 B2 HQ HR HE
  go_upto_region 6 with fail
  have U4 := hide (UM.start2 B3.out hg' X3.out rfl)
  generalize w3.alloc (.cells #[.slice none 0 0, .slice none 0 0, .int .i64 0] 33) = w4 at *
  generalize w3.heap.size = bc at *
  generalize Pk.qryOf q = Q at *
  have U5 : Hid (UMy w.heap.size w w4 bc g Q) := ⟨_, _, _, U4.out⟩
  clear U4 X3 B3
  go_wp2
  go_loopw [13] (fun i wr => ∃ k : Nat, k ≤ len ∧ i = .int .i64 k ∧ Hid (UMy w.heap.size w wr bc g Q)) (fun i _ => len - (intOf i).toNat)
  case atStart => exact ⟨0, by omega, rfl, U5⟩
  case round =>
    obtain ⟨k, hk, rfl, HU⟩ := hrel
    by_cases hlt : k < len
    · have hlt' : (k : Int) < (len : Int) := by omega
      obtain ⟨cs, all, t, hu⟩ := HU.out
      have U1 := hide hu
      clear hu HU U5
      obtain ⟨a, cap, ea, hcell⟩ : ∃ a cap, Value.slice xv len cv = .slice (some a) len cap ∧ ∀ i, i < len → a.block < w.heap.size ∧ w.cell? (a.add i) = some (.string (S i)) ∧ (S i).size ≤ maxLen := by
        rcases HV.out with ⟨_, h2⟩ | h
        · omega
        · exact h
      cases ea
      obtain ⟨hal, hc1, hsz⟩ := hcell k hlt
      have d0 : wr.cell? (a.add k) = some (.string (S k)) := (U1.out.1.cell (p := a.add k) (by unfold Addr.add; split <;> exact hal)).trans hc1
      clear hcell hc1
      go_wp2_with fail
      refine (U1.out.batch hsz).mono ?_
      rintro e w6 ⟨x6, n6, c6, rfl, ub, rc, kp⟩
      have UB6 := hide ub
      have RC6 := hide rc
      clear ub rc kp d0 U1
      go_wp2_with fail
      refine (UB6.out.apply RC6.out).mono ?_
      rintro e w7 ⟨x7, n7, c7, rfl, um, _, _⟩
      have U7 := hide um
      clear um UB6 RC6
      go_wp2
      go_roundw
      case rel => exact ⟨k + 1, by omega, by go_num, _, _, _, U7.out⟩
      case measure => simp [intOf]; omega
    · have hlt' : ¬ (k : Int) < (len : Int) := by omega
      obtain ⟨cs, all, t, hu⟩ := HU.out
      have HI := hide hu.2.2.2.2.1
      have HSM := hide hu.2.2.2.2.2.1
      obtain ⟨vr1, vn1, vb1, vk1, vf1, has1, tp1, fr1, vt1, hcm, hxv⟩ := hu.2.2.2.2.2.2
      have B8 := hide hu.1
      have K8 := hide hcm.blk
      have X8 : Hid (XVx wr g Q t) := ⟨_, _, _, _, _, _, _, hxv⟩
      have hne : Hid (bc ≠ g) := fun e => by
        have h3 := hcm.blk
        rw [e, hxv.blk] at h3
        simp at h3
      have TI := hide hxv.inv
      have HNP := hide (Pk.nop_of HI.out HSM.out)
      have HTT : Hid (Pv.totalF t = all) := (Pk.total_eq HSM.out).trans HI.out.tot
      have hall1 : all ≤ 40 := HI.out.top
      have hall0 : 0 ≤ all := by
        have h3 := (Pv.total_ge hxv.inv.pos).1
        rw [HTT.out] at h3
        omega
      have SMR := hide (rows_small hxv.q hxv.inv)
      have SMB : Hid (∀ x ∈ Pv.rowsF Q t, x.2.1.length ≤ 1000 ∧ IntKind.i64.wrap (1 * x.2.2) = 1 * x.2.2) := fun x hx => by
        obtain ⟨h1, h2, h3⟩ := SMR.out.2 x hx
        exact ⟨h1, wrapOne2 h2 h3⟩
      clear hu HU U5 hcm hxv
      generalize wr = wa at *
      go_wp2_with fail
      refine (X8.out.rows).mono ?_
      rintro e w9 ⟨b9, x9, n9, c9, rfl, r9⟩
      have B9 := hide (B8.out.trans (b9.mono B8.out.size))
      have X9 := hide (X8.out.below b9)
      have K9 : Hid (w9.heap[bc]? = some (.cells #[vr1, vn1, .int .i64 all] 33 (0, 0))) := (b9.block bc (Array.getElem?_eq_some_iff.1 K8.out).1).trans K8.out
      have L9 := hide r9
      clear b9 r9 X8 K8 B8
      go_wp2_with fail
      refine (XVx.tab9 X9.out).mono ?_
      rintro e w10 ⟨b10, x10, n10, c10, rfl, r10⟩
      have F10 : Hid (FS w w10 g bc Q t all (.cells #[vr1, vn1, .int .i64 all] 33 (0, 0)) (.slice x9 n9 c9) (.slice x10 n10 c10)) := ⟨B9.out.trans (b10.mono B9.out.size), X9.out.below b10, (b10.block bc (Array.getElem?_eq_some_iff.1 K9.out).1).trans K9.out, L9.out.below b10, r10, hne.out, hg'⟩
      clear b10 r10 X9 K9 B9 L9
      generalize hcb : Obj.cells #[vr1, vn1, .int .i64 all] 33 (0, 0) = cb at *
      have HCB := hide hcb
      clear hcb
      go_wp2_with fail
      refine (queries_any w10).mono ?_
      rintro e w11 ⟨rfl, b11⟩
      have F11 := hide (F10.out.below b11)
      clear b11 F10
      have K11 : w11.heap[bc]? = some (.cells #[vr1, vn1, .int .i64 all] 33 (0, 0)) := by rw [HCB.out]; exact F11.out.k
      have z2 : w11.cell? ⟨bc, 2, none⟩ = some (.int .i64 all) := cell_of_heap K11 2
      clear K11
      go_wp2_with fail
      refine (batches_any F11.out.x HNP.out HTT.out hall0 hall1).mono ?_
      rintro e w12 ⟨rfl, bu, xw⟩
      have F12 := hide (F11.out.but bu xw)
      clear bu xw F11 z2
      go_wp2_with fail
      refine (one_any2 900 1 1 2 w12).mono ?_
      rintro e w13 ⟨rfl, b13⟩
      go_wp2_with fail
      refine (one_any2 900 0 1 (-1) w13).mono ?_
      rintro e w14 ⟨rfl, b14⟩
      go_wp2_with fail
      refine (one_any2 900 1 1 (-2) w14).mono ?_
      rintro e w15 ⟨rfl, b15⟩
      go_wp2_with fail
      refine (one_any2 900 0 1 1 w15).mono ?_
      rintro e w16 ⟨rfl, b16⟩
      have F16 := hide ((((F12.out.below b13).below b14).below b15).below b16)
      clear b13 b14 b15 b16 F12
      go_wp2_with fail
      have F17 := hide (F16.out.below ((Below.refl _ _).alloc (Nat.le_refl _) (.cells #[.int .i64 900, .int .i64 1, .int .i64 1, .int .i64 2, .int .i64 900, .int .i64 0, .int .i64 1, .int .i64 (-1), .int .i64 900, .int .i64 1, .int .i64 1, .int .i64 (-2), .int .i64 900, .int .i64 0, .int .i64 1, .int .i64 1] 47)))
      refine (quiet_any F17.out.x (RdC.new w16 [((900, 1, 1), 2), ((900, 0, 1), -1), ((900, 1, 1), -2), ((900, 0, 1), 1)] _ 4 rfl rfl) (by simp) (Pk.firm_back TI.out)).mono ?_
      rintro e w18 ⟨⟨xd, cd, rfl⟩, bu, xw⟩
      have F18 := hide (F17.out.but bu xw)
      clear bu xw F17 F16
      go_wp2_with fail
      refine (quiet_any F18.out.x (bt := []) (.inl ⟨rfl, rfl⟩) (by simp) (Pk.firm_nil TI.out)).mono ?_
      rintro e w19 ⟨⟨xn, cn, rfl⟩, bu, xw⟩
      have F19 := hide (F18.out.but bu xw)
      clear bu xw F18
      go_wp2_with fail
      refine (F19.out.x.rows).mono ?_
      rintro e w20 ⟨b20, x20, n20, c20, rfl, r20⟩
      have F20 := hide (F19.out.below b20)
      have M20 := hide r20
      clear b20 r20 F19
      go_wp2_with fail
      refine (XVx.tab9 F20.out.x).mono ?_
      rintro e w21 ⟨b21, x21, n21, c21, rfl, r21⟩
      have F21 := hide (F20.out.below b21)
      have M21 := hide (M20.out.below b21)
      have V21 := hide r21
      have LT : Hid (RdO w21 (.slice x9 n9 c9) (timesO 1 (Pv.rowsF Q t))) := by rw [timesO_one]; exact F21.out.l
      clear b21 r21 F20 M20
      go_wp2_with fail
      refine (ksameOuts_eq (sg := 1) LT.out M21.out (by have := SMR.out.1; omega) SMB.out).mono ?_
      rintro e w22 ⟨rfl, b22⟩
      have F22 := hide (F21.out.below b22)
      have V22 := hide (V21.out.below b22)
      clear b22 LT M21 V21 F21
      go_wp2_with fail
      refine (ksameTables_eq F22.out.t V22.out (by have := TI.out.len; omega)).mono ?_
      rintro e w23 ⟨rfl, b23⟩
      have F23 := hide (F22.out.below b23)
      have V23 := hide (V22.out.below b23)
      clear b23 F22 V22
      go_wp2_with fail
      refine (copies_any V23.out (by have := TI.out.len; omega) (fun c hc => by have := TI.out.bd c hc; omega)).mono ?_
      rintro e w24 ⟨rfl, hw24⟩
      obtain rfl := hw24.symm
      rw [HTT.out]
      clear hw24
      have K23 : w23.heap[bc]? = some (.cells #[vr1, vn1, .int .i64 all] 33 (0, 0)) := by rw [HCB.out]; exact F23.out.k
      have z2 : w23.cell? ⟨bc, 2, none⟩ = some (.int .i64 all) := cell_of_heap K23 2
      clear K23
      go_wp2
      go_ret
      exact ⟨by simp, F23.out.b⟩
end Go.Proofs.YtcoofnhdbejnpabGreatDoor

/- Package paneskeep: scribble; what is kept beside it. -/
namespace Go.Proofs.YtcoofnhdbejnpabGreatDoor
open Go.RowKit
theorem own_free5 {w : World} {B T sz g cap n m : Nat} {xs : List Value} (h : w.ownsRow B T sz (.slice (some ⟨g, 0, none⟩) n cap) m xs) (j : Nat) : w.frozen? ⟨g, j, none⟩ = false := by
  rcases h.2 with ⟨h1, _⟩ | ⟨g', cap', cur, h1, h2, h3, _⟩
  · cases h1
  · cases h1; exact free_of_heap h3 j
/-- a list of out rows that may be written into: the lists of values in it -/
def Scr (w : World) (B : Nat) (v : Value) (ss : List Value) : Prop :=
  ∃ xs, w.ownsRow B 109 5 v ss.length xs ∧ (∀ i (h : i < ss.length), xs[i * 5 + 3]? = some ss[i]) ∧ ∀ s ∈ ss, ∃ m ys, m ≤ 1000 ∧ w.ownsRow B 112 2 s m ys
theorem Scr.at' {w : World} {B g cap n : Nat} {ss : List Value} (h : Scr w B (.slice (some ⟨g, 0, none⟩) n cap) ss) (k : Nat) (hk : k < ss.length) : (∀ j, j < 5 → ∃ u, w.cell? ⟨g, k * 5 + j, none⟩ = some u) ∧ w.cell? ⟨g, k * 5 + 3, none⟩ = some ss[k] ∧ ∀ j, w.frozen? ⟨g, j, none⟩ = false := by
  obtain ⟨xs, h1, h2, _⟩ := h
  have hl : xs.length = ss.length * 5 := h1.1
  refine ⟨fun j hj => ?_, ?_, own_free5 h1⟩
  · have e : xs[k * 5 + j]? = some xs[k * 5 + j] := List.getElem?_eq_getElem (by omega)
    have := RdG.cell (RdG.ofOwn h1) _ _ e
    rw [Nat.zero_add] at this
    exact ⟨_, this⟩
  · have := RdG.cell (RdG.ofOwn h1) _ _ (h2 k hk)
    rw [Nat.zero_add] at this
    exact this
/-- blocks of out rows and of values that were made behind B -/
def SB (w : World) (B : Nat) (k : Nat) : Prop := B ≤ k ∧ ∃ cur T fz, w.heap[k]? = some (.cells cur T fz) ∧ (T = 109 ∨ T = 112)
def pS (T : Nat) : Prop := T ≠ 109 ∧ T ≠ 112
theorem SB.off (w : World) (B : Nat) : Off (SB w B) w pS := fun k hk _ => by
  obtain ⟨_, cur, T, fz, e, ht⟩ := hk
  exact ⟨cur, T, fz, e, fun hp => by rcases ht with q | q; exact hp.1 q; exact hp.2 q⟩
end Go.Proofs.YtcoofnhdbejnpabGreatDoor

/- Three views and two counts beside each other. -/
namespace Go.Proofs.YtcoofnhdbejnpabGreatDoor
open Go.RowKit
theorem XVx.off {w : World} {gx : Nat} {Q : Pv.Qry} {t : List Pv.Chg} (h : XVx w gx Q t) : Off (fun k => k = gx) w (fun T => T ≠ 91) := by
  obtain ⟨vb, vk, vf, has, tp, fr, vt, h⟩ := h
  exact h.offX
end Go.Proofs.YtcoofnhdbejnpabGreatDoor

/-
  For all texts of raw bytes and all lists of raw bytes: paneskeep.Apart returns true, and its arguments read afterwards as before. Conditions: the three tables of math/bits and internal/strconv that the road names start as the text of the program lays them (the card ties them).
-/
namespace Go.Proofs.YtcoofnhdbejnpabGreatDoor
open Go.ChangeShapes Go.WideShapes Go.ChangeAt Go.RowKit Go.Deep
open Go.ChangeMaps (open_string shut_string)
theorem kown : ownKnob Tryz.prog.godebug = none := by kernel_rfl
theorem klaidOut : laidOutB Tryz.prog = true := by kernel_rfl
theorem kcellsStr : Tryz.prog.cellsOf 9 = 1 := by kernel_rfl
def strAt (w : World) (a : Addr) (i : Nat) : ByteArray := match w.cell? (a.add i) with | some (.string s) => s | _ => ByteArray.empty
theorem strAt_of {H : Type} {enc : TypeId × Value → H} {W : World} {a : Addr} {i n : Nat} {v : Value} {x : DataW H × List MemPlace} (hc : W.cell? (a.add i) = some v) (ht : DataW.trod enc Tryz.prog W 0 (fun _ => true) true n 9 [v] = some x) : W.cell? (a.add i) = some (.string (strAt W a i)) ∧ (strAt W a i).size ≤ maxLen := by
  obtain ⟨s, hs, _, hsz⟩ := DataW.trod_string Tryz.underlying9 ht
  have e : v = .string s := by simpa using hs
  subst e
  have : strAt W a i = s := by unfold strAt; rw [hc]
  rw [this]
  exact ⟨hc, hsz⟩
theorem kbytesStr : Tryz.prog.bytesOf 9 = 16 := by kernel_rfl
set_option maxRecDepth 100000 in
set_option maxHeartbeats 1000000 in
theorem strs_open {H : Type} {enc : TypeId × Value → H} {W : World} {base : Nat} {v : Value} {d : DataW H} {p : List MemPlace} (hval : Value.okWide Tryz.prog W .any base 22 v) (h : DataW.Trod enc Tryz.prog W 0 (fun _ => true) true 22 v d p) (hw : (d.weights Tryz.prog 22).all (· ≤ reachBytes) = true) :
    ∃ (len : Nat) (S : Nat → ByteArray), ((v = .slice none 0 0 ∧ len = 0) ∨ ∃ a cap, v = .slice (some a) len cap ∧ ∀ i, i < len → a.block < W.heap.size ∧ W.cell? (a.add i) = some (.string (S i)) ∧ (S i).size ≤ maxLen) ∧ len ≤ 1000000000000000 := by
  obtain ⟨x3, len, cap, rfl⟩ := okWide_slice Tryz.underlying22 hval
  obtain ⟨fuel, hf⟩ := h
  rcases open_slice1 Tryz.underlying22 kcellsStr hf with ⟨hcs, hx⟩ | ⟨a, len', cap', m, n, V, D, Pl, hcs, hb, hl, hm, hmm, hx, hel⟩
  · simp [Value.cells] at hcs
    obtain ⟨rfl, rfl, rfl⟩ := hcs
    exact ⟨0, fun _ => ByteArray.empty, .inl ⟨rfl, rfl⟩, by omega⟩
  · simp [Value.cells] at hcs
    obtain ⟨rfl, rfl, rfl⟩ := hcs
    have hlen : len ≤ 1000000000000000 := by
      have e : d = _ := congrArg Prod.fst hx
      rw [e] at hw
      simp only [DataW.weights, Tryz.underlying22, kbytesStr, List.all_cons, List.all_append, Bool.and_eq_true, decide_eq_true_eq] at hw
      have hr : reachBytes = 140737488351232 := rfl
      simp at hw
      omega
    simp only [if_true] at hmm
    subst hmm
    refine ⟨len, strAt W a, .inr ⟨a, m, rfl, fun i hi => ?_⟩, hlen⟩
    obtain ⟨h1, h2⟩ := hel i (by omega)
    obtain ⟨h3, h4⟩ := strAt_of h1 h2
    refine ⟨?_, h3, h4⟩
    have := World.cell?_lt h3
    unfold Addr.add at this
    split at this <;> exact this
end Go.Proofs.YtcoofnhdbejnpabGreatDoor

/-
  For every text of raw bytes, both choices of by and top and every list of raw bytes: paneskeep.Firm returns true, and its arguments read afterwards as before. Conditions: the three tables of math/bits and internal/strconv that the road names start as the text of the program lays them (the card ties them).
-/
namespace Go.Proofs.YtcoofnhdbejnpabGreatDoor
open Go.ChangeShapes Go.WideShapes Go.ChangeAt Go.RowKit Go.Deep
open Go.ChangeMaps (open_string shut_string)
theorem firm_door (os : Os) (args : Array Value) : laidMetH Tryz.prog Rows.firmRow.laid ((World.doorLaid Tryz.prog 100 os).forCall (fun _ _ => 0) ⟨#[], args, []⟩).memory :=
  laidMetH_of_parts3 (fuel := 8) (laidMet_of_run' 8 (by kernel_rfl) (by kernel_rfl)) (by kernel_rfl) (by kernel_rfl)
set_option maxRecDepth 100000 in
set_option maxHeartbeats 1000000 in
theorem firm_lifted (os : Os) (started : os.Started) (H : Type) (enc : TypeId × Value → H) :
    ReturnsInHanded {} Tryz.checked os 3 .any (fun w args => (Rows.firmSpec.pre enc Tryz.prog Tryz.f3 [] false w args ∧ laidMetH Tryz.prog Rows.firmRow.laid w) ∧ sizedMet enc Tryz.prog Tryz.f3 (OpenSpec.ofChange Rows.firmSpec) false w args)
      (Rows.firmSpec.post enc Tryz.prog Tryz.f3 false true false false) := by
  refine returnsInHanded_of_change_and (C := Tryz.checked) (X := fun w _ => laidMetH Tryz.prog Rows.firmRow.laid w) (fun _ _ _ hh h => h.of_heap hh) kown started (by kernel_rfl) Tryz.func3
    (ChangeSpec.witness_shaped (enc := enc) (C := Tryz.checked) (os := os) (X := fun w _ => laidMetH Tryz.prog Rows.firmRow.laid w) false (World.doorLaid Tryz.prog 100 os) #[.string ByteArray.empty, .bool false, .bool false, .slice none 0 0] 8 rfl (World.shaped_of_RefB (by kernel_rfl) (by kernel_rfl)) (by kernel_rfl) (by kernel_rfl) (by kernel_rfl) (firm_door os _)) ?_
  intro W base args ds gs before hval0 hW _ hwt0 _ _
  have hwt : (DataW.weightsEach Tryz.prog (Tryz.f3.params.toList ++ Rows.firmSpec.plain.varTypes Tryz.prog) (ds ++ gs)).all (· ≤ reachBytes) = true := hwt0
  clear hwt0
  have hval : ∀ (j : Nat) t v, Tryz.f3.params[j]? = some t → args[j]? = some v → Value.okWide Tryz.prog W .any base t v := hval0
  have hW' := hW
  obtain ⟨p, q, hA0, hV, rfl, hfz, hnd⟩ := hW
  have hA : DataW.TrodAll enc Tryz.prog W 0 (fun _ => true) true Tryz.f3.params.toList args.toList ds p := hA0
  rw [Tryz.params3] at hA hval hwt
  obtain ⟨v0, vs0, d0, ds0, p0, q0, hargs, rfl, rfl, h0, r0⟩ := trodAll_cons hA
  obtain ⟨v1, vs1, d1, ds1, p1, q1, rfl, rfl, rfl, h1, r1⟩ := trodAll_cons r0
  obtain ⟨v2, vs2, d2, ds2, p2, q2, rfl, rfl, rfl, h2, r2⟩ := trodAll_cons r1
  obtain ⟨v3, vs3, d3, ds3, p3, q3, rfl, rfl, rfl, h3, r3⟩ := trodAll_cons r2
  obtain ⟨rfl, rfl, rfl⟩ := trodAll_nil r3
  obtain rfl : args = #[v0, v1, v2, v3] := by cases args; simp_all
  obtain ⟨rfl, rfl⟩ := trodVars_none hV
  obtain ⟨a0, rfl, rfl, rfl, w0⟩ := open_string Tryz.underlying9 (hval 0 9 v0 rfl rfl) h0
  obtain ⟨a1, rfl, rfl, rfl⟩ := open_bool Tryz.underlying4 (hval 1 4 v1 rfl rfl) h1
  obtain ⟨a2, rfl, rfl, rfl⟩ := open_bool Tryz.underlying4 (hval 2 4 v2 rfl rfl) h2
  simp only [List.cons_append, List.nil_append, List.append_nil, DataW.weightsEach, List.all_append, Bool.and_eq_true] at hwt
  have hq3 : (d3.weights Tryz.prog 22).all (· ≤ reachBytes) = true := hwt.2.2.2.1
  obtain ⟨len3, S3, hs3, hl3⟩ := strs_open (hval 3 22 v3 rfl rfl) h3 hq3
  clear hA0 hval0
  simp only [List.append_nil, List.nil_append] at hW'
  have hlt : ∀ x ∈ p3, x.block < W.heap.size := fun x hx => hW'.lt x (by simpa using hx)
  refine (firm_walk a0 a1 a2 v3 len3 S3 W w0 hl3 hs3).mono fun e W' ⟨he, hb⟩ => ?_
  subst he
  refine ⟨_, rfl, _, _, _, [], [] ++ ([] ++ ([] ++ (p3 ++ []))), [], hW', trodAll_cons_mk (shut_bool Tryz.underlying4 _) trodAll_mk0, ?_, rfl, hb.frame _, fun h => by cases h⟩
  exact trodAll_cons_mk (shut_string Tryz.underlying9 w0) (trodAll_cons_mk (shut_bool Tryz.underlying4 a1) (trodAll_cons_mk (shut_bool Tryz.underlying4 a2) (trodAll_cons_mk (WideElems.Trod_stays klaidOut (by kernel_rfl) (of_decide_eq_true (by kernel_rfl)) h3 (fun x hx => hb.same (hlt x hx)) (fun x hx => by simpa using hlt x hx)) trodAll_mk0)))
theorem firm_holds : Rows.FirmSaid :=
  OpenClaim.holds_of_wide 3 Tryz.f3 rfl rfl rfl rfl rfl rfl rfl ⟨rfl, rfl, rfl, rfl, rfl⟩ rfl rfl rfl rfl rfl (by kernel_rfl) Tryz.func3 (by kernel_rfl)
    (of_decide_eq_true (by kernel_rfl)) (by unfold Func.isWrapper; first | (rw [if_pos (by decide +kernel)]; kernel_rfl) | (rw [if_neg (by decide +kernel)]; exact ⟨rfl, rfl⟩))
    (fun os started H enc _ => firm_lifted os started H enc)
end Go.Proofs.YtcoofnhdbejnpabGreatDoor

/-
  For every text of raw bytes, both choices of by and top and every list of raw bytes: paneskeep.Firm returns true, and its arguments read afterwards as before. No condition beyond the tie: the three tables of math/bits and internal/strconv that the road names are tied to the text of the program.
-/
namespace Go.Proofs.YtcoofnhdbejnpabGreatDoor
open Go
theorem firm_card_holds : Rows.FirmCardSaid :=
  Claim7.holds_tied_plain_at .later [] [.data, .data, .data] true (true, "35cb3611e6ec8631c9b87fa9446456580db0c70a05689f58e83cb988c4b9f4df") true
    firm_holds (fun _ h => by cases h) (by kernel_rfl) (fun _ h => by cases h) firm_row_tie rfl ⟨rfl, rfl⟩ (by kernel_rfl) rfl
    (fun f fn hf hfn => by
      obtain rfl : f = 3 := Option.some.inj ((show Tryz.prog.funcNamed Tryz.f3.name = some 3 by kernel_rfl).symm.trans hf) |>.symm
      obtain rfl : fn = Tryz.f3 := (Option.some.inj (Tryz.func3.symm.trans hfn)).symm
      exact ⟨by kernel_rfl, fun j t ht => by
        rw [Tryz.params3] at ht
        have hm : t ∈ [9, 4, 4, 22] := by simpa using Array.mem_of_getElem? ht
        have hall : ([9, 4, 4, 22].all fun u => !Tryz.prog.wantsStandIn u) = true := by kernel_rfl
        exact (show Tryz.prog.wantsStandIn t = false by simpa using List.all_eq_true.1 hall t hm)⟩)
    (by kernel_rfl)
end Go.Proofs.YtcoofnhdbejnpabGreatDoor

