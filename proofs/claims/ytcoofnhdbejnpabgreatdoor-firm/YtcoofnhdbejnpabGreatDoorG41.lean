/- Package paneskeep: batches answers true. -/
import Derived.StillTailTactics
import Derived.Test.YtcoofnhdbejnpabGreatDoorG40
import Derived.Test.YtcoofnhdbejnpabGreatDoorG19
import Derived.Test.YtcoofnhdbejnpabGreatDoorG38
namespace Go.Proofs.YtcoofnhdbejnpabGreatDoor
open Go.RowKit
/-- the view, the good change and the bad rows in memory -/
structure BT (w wr : World) (gx bg br : Nat) (Q : Pv.Qry) (t : List Pv.Chg) : Prop where
  bu : But (fun k => k = gx) w wr
  x : XVx wr gx Q t
  g : wr.heap[bg]? = some (.cells #[.int .i64 900, .int .i64 0, .int .i64 0, .int .i64 1] 47 (0, 0))
  r : RdC wr (.slice (some ⟨br, 0, none⟩) 5 5) Pk.badRows
theorem XVx.off' {w : World} {gx : Nat} {Q : Pv.Qry} {t : List Pv.Chg} (h : XVx w gx Q t) : Off (fun k => k = gx) w (fun T => T ≠ 91) := by
  obtain ⟨vb, vk, vf, has, tp, fr, vt, h⟩ := h
  exact h.offX
theorem BT.below {w wr w1 : World} {gx bg br : Nat} {Q : Pv.Qry} {t : List Pv.Chg} (h : BT w wr gx bg br Q t) (hb : Below wr.heap.size wr w1) : BT w w1 gx bg br Q t :=
  ⟨h.bu.of hb, h.x.below hb, (hb.block bg (Array.getElem?_eq_some_iff.1 h.g).1).trans h.g, h.r.below hb⟩
theorem BT.rf {w wr w1 : World} {gx bg br : Nat} {Q : Pv.Qry} {t : List Pv.Chg} (h : BT w wr gx bg br Q t) (hb : But (fun k => k = gx) wr w1) (hx : XVx w1 gx Q t) : BT w w1 gx bg br Q t :=
  ⟨h.bu.via hb (fun _ _ q => q), hx, (hb.block bg (Array.getElem?_eq_some_iff.1 h.g).1 (h.x.off'.ne h.g (by decide))).trans h.g, h.r.but hb h.x.off' (by decide)⟩
theorem BT.alloc {w wr : World} {gx bg br : Nat} {Q : Pv.Qry} {t : List Pv.Chg} (h : BT w wr gx bg br Q t) (o : Obj) : BT w (wr.alloc o) gx bg br Q t := h.below ((Below.refl _ _).alloc (Nat.le_refl _) o)
/-- with the bad counts -/
def BT2 (w wr : World) (gx bg br bn : Nat) (Q : Pv.Qry) (t : List Pv.Chg) : Prop := BT w wr gx bg br Q t ∧ wr.heap[bn]? = some (.cells #[.int .i64 0, .int .i64 41, .int .i64 (-41), .int .i64 9223372036854775807, .int .i64 (-9223372036854775808)] 3 (0, 0))
theorem BT2.below {w wr w1 : World} {gx bg br bn : Nat} {Q : Pv.Qry} {t : List Pv.Chg} (h : BT2 w wr gx bg br bn Q t) (hb : Below wr.heap.size wr w1) : BT2 w w1 gx bg br bn Q t :=
  ⟨h.1.below hb, (hb.block bn (Array.getElem?_eq_some_iff.1 h.2).1).trans h.2⟩
theorem BT2.rf {w wr w1 : World} {gx bg br bn : Nat} {Q : Pv.Qry} {t : List Pv.Chg} (h : BT2 w wr gx bg br bn Q t) (hb : But (fun k => k = gx) wr w1) (hx : XVx w1 gx Q t) : BT2 w w1 gx bg br bn Q t :=
  ⟨h.1.rf hb hx, (hb.block bn (Array.getElem?_eq_some_iff.1 h.2).1 (h.1.x.off'.ne h.2 (by decide))).trans h.2⟩
theorem BT2.alloc {w wr : World} {gx bg br bn : Nat} {Q : Pv.Qry} {t : List Pv.Chg} (h : BT2 w wr gx bg br bn Q t) (o : Obj) : BT2 w (wr.alloc o) gx bg br bn Q t := h.below ((Below.refl _ _).alloc (Nat.le_refl _) o)
theorem BT2.cnt {w wr : World} {gx bg br bn : Nat} {Q : Pv.Qry} {t : List Pv.Chg} (h : BT2 w wr gx bg br bn Q t) {k : Nat} (hk : k < Pk.badCnt.length) : wr.cell? ⟨bn, k, none⟩ = some (.int .i64 Pk.badCnt[k]) := by
  rw [cell_of_heap h.2]
  have hk5 : k < 5 := hk
  match k, hk5 with
  | 0, _ => rfl
  | 1, _ => rfl
  | 2, _ => rfl
  | 3, _ => rfl
  | 4, _ => rfl
theorem one_any2 (p k v n : Int) (w : World) : Calls Tryz.prog 14 #[.int .i64 p, .int .i64 k, .int .i64 v, .int .i64 n] w fun e w' => e = .returned (.agg #[.int .i64 p, .int .i64 k, .int .i64 v, .int .i64 n]) ∧ Below w.heap.size w w' := one_any p k v n w
/-- a batch just laid that is refused for this reason -/
def RtPost (W : World) (gx : Nat) (Q : Pv.Qry) (t : List Pv.Chg) (e : Ending) (w' : World) : Prop := e = .returned (.bool true) ∧ But (fun k => k = gx) W w' ∧ XVx w' gx Q t
theorem rf_true {W W' : World} {gx : Nat} {Q : Pv.Qry} {t : List Pv.Chg} (h : XVx W' gx Q t) (bt : List Pv.Chg) (cs : Array Value) (hb : Below (W.alloc (.cells cs 47)).heap.size (W.alloc (.cells cs 47)) W') (n : Nat) (E : Int) (A : Nat) (A' : Int) (hA : (A : Int) = A') (hc : cs.toList = rchgs bt) (hn : n = bt.length) (hl : bt.length ≤ 60) (hr : Pv.refusedF t bt = (E, A)) (hE : E ≠ 0) :
    Calls Tryz.prog 41 #[.pointer (some ⟨gx, 0, none⟩), .slice (some ⟨W.heap.size, 0, none⟩) n n, .int .i64 E, .int .i64 A'] W' fun e w' => RtPost W' gx Q t e w' := by
  refine (refused_any h ((RdC.new W bt cs n hc hn).below hb) hl (by rw [hr]; exact hE) E A').mono ?_
  rintro e w' ⟨he, bu, xv⟩
  rw [hr] at he
  refine ⟨he.trans ?_, bu, xv⟩
  simp [hA]
theorem rf_list {W' : World} {gx : Nat} {Q : Pv.Qry} {t : List Pv.Chg} (h : XVx W' gx Q t) {v : Value} {bt : List Pv.Chg} (hv : RdC W' v bt) (E : Int) (A : Nat) (A' : Int) (hA : (A : Int) = A') (hl : bt.length ≤ 60) (hr : Pv.refusedF t bt = (E, A)) (hE : E ≠ 0) :
    Calls Tryz.prog 41 #[.pointer (some ⟨gx, 0, none⟩), v, .int .i64 E, .int .i64 A'] W' fun e w' => RtPost W' gx Q t e w' := by
  refine (refused_any h hv hl (by rw [hr]; exact hE) E A').mono ?_
  rintro e w' ⟨he, bu, xv⟩
  rw [hr] at he
  refine ⟨he.trans ?_, bu, xv⟩
  simp [hA]
def RnPost (W : World) (gx : Nat) (Q : Pv.Qry) (t : List Pv.Chg) (e : Ending) (w' : World) : Prop := e = .returned (.bool false) ∧ But (fun k => k = gx) W w' ∧ XVx w' gx Q t
def BtPost (w : World) (gx : Nat) (Q : Pv.Qry) (t : List Pv.Chg) (e : Ending) (w' : World) : Prop := e = .returned (.bool true) ∧ But (fun k => k = gx) w w' ∧ XVx w' gx Q t
set_option maxRecDepth 100000 in
set_option maxHeartbeats 4000000 in
theorem batches_any {w : World} {gx : Nat} {Q : Pv.Qry} {t : List Pv.Chg} {all : Int} (h : XVx w gx Q t) (hn : Pk.NoP t) (ht : Pv.totalF t = all) (h1 : 0 ≤ all) (h2 : all ≤ 40) :
    Calls Tryz.prog 13 #[.pointer (some ⟨gx, 0, none⟩), .int .i64 all] w fun e w' => BtPost w gx Q t e w' := by
  obtain ⟨i0, hi, hz0, hz1, hz2⟩ := info_parts infoChg
  have HX := hide h
  have HN := hide hn
  have HT := hide ht
  clear h hn ht
  go_enter Tryz.func13, Tryz.ntmps13
  go_wp2_with fail
  refine (one_any 900 0 0 1 w).mono ?_
  rintro e w1 ⟨rfl, b1⟩
  unfold cvl
  simp only []
  have B1 := hide b1
  clear b1
  go_upto_region 2 with fail
  have D2 := hide (heap_alloc_new w1 (.cells #[.int .i64 900, .int .i64 0, .int .i64 0, .int .i64 1] 47))
  have B2 := hide (B1.out.alloc B1.out.size (.cells #[.int .i64 900, .int .i64 0, .int .i64 0, .int .i64 1] 47))
  generalize w1.alloc (.cells #[.int .i64 900, .int .i64 0, .int .i64 0, .int .i64 1] 47) = w2 at *
  generalize w1.heap.size = bg at *
  clear B1
  go_wp2_with fail
  refine (one_any 1001 0 0 1 w2).mono ?_
  rintro e w3 ⟨rfl, b3⟩
  go_wp2_with fail
  refine (one_any 0 (-1001) 0 1 w3).mono ?_
  rintro e w4 ⟨rfl, b4⟩
  go_wp2_with fail
  refine (one_any 0 0 1001 1 w4).mono ?_
  rintro e w5 ⟨rfl, b5⟩
  go_wp2_with fail
  refine (one_any (-9223372036854775808) 0 0 1 w5).mono ?_
  rintro e w6 ⟨rfl, b6⟩
  go_wp2_with fail
  refine (one_any 0 9223372036854775807 0 0 w6).mono ?_
  rintro e w7 ⟨rfl, b7⟩
  have b27 : Below w2.heap.size w2 w7 := b3.trans ((b4.mono b3.size).trans ((b5.mono (Nat.le_trans b3.size b4.size)).trans ((b6.mono (Nat.le_trans b3.size (Nat.le_trans b4.size b5.size))).trans (b7.mono (Nat.le_trans b3.size (Nat.le_trans b4.size (Nat.le_trans b5.size b6.size)))))))
  have B7 := hide (B2.out.trans (b27.mono B2.out.size))
  have D7 : Hid (w7.heap[bg]? = some (.cells #[.int .i64 900, .int .i64 0, .int .i64 0, .int .i64 1] 47 (0, 0))) := (b27.block bg (Array.getElem?_eq_some_iff.1 D2.out).1).trans D2.out
  clear b3 b4 b5 b6 b7 b27 D2 B2
  unfold cvl
  simp only []
  go_upto_region 4 with fail
  have A8 : Hid (BT w (w7.alloc (.cells #[.int .i64 1001, .int .i64 0, .int .i64 0, .int .i64 1, .int .i64 0, .int .i64 (-1001), .int .i64 0, .int .i64 1, .int .i64 0, .int .i64 0, .int .i64 1001, .int .i64 1, .int .i64 (-9223372036854775808), .int .i64 0, .int .i64 0, .int .i64 1, .int .i64 0, .int .i64 9223372036854775807, .int .i64 0, .int .i64 0] 47)) gx bg w7.heap.size Q t) := by
    have b8 := (Below.refl w7.heap.size w7).alloc (Nat.le_refl _) (.cells #[.int .i64 1001, .int .i64 0, .int .i64 0, .int .i64 1, .int .i64 0, .int .i64 (-1001), .int .i64 0, .int .i64 1, .int .i64 0, .int .i64 0, .int .i64 1001, .int .i64 1, .int .i64 (-9223372036854775808), .int .i64 0, .int .i64 0, .int .i64 1, .int .i64 0, .int .i64 9223372036854775807, .int .i64 0, .int .i64 0] 47)
    have bw := B7.out.trans (b8.mono B7.out.size)
    exact ⟨But.ofBelow bw, HX.out.below bw, (b8.block bg (Array.getElem?_eq_some_iff.1 D7.out).1).trans D7.out, RdC.new w7 Pk.badRows _ 5 rfl rfl⟩
  generalize w7.alloc (.cells #[.int .i64 1001, .int .i64 0, .int .i64 0, .int .i64 1, .int .i64 0, .int .i64 (-1001), .int .i64 0, .int .i64 1, .int .i64 0, .int .i64 0, .int .i64 1001, .int .i64 1, .int .i64 (-9223372036854775808), .int .i64 0, .int .i64 0, .int .i64 1, .int .i64 0, .int .i64 9223372036854775807, .int .i64 0, .int .i64 0] 47) = w8 at *
  generalize w7.heap.size = br at *
  clear B7 D7 HX
  go_wp2
  go_loopw [8] (fun i wr => ∃ k : Nat, k ≤ 5 ∧ i = .int .i64 k ∧ Hid (BT w wr gx bg br Q t)) (fun i _ => 5 - (intOf i).toNat)
  case atStart => exact ⟨0, by omega, rfl, A8⟩
  case round =>
    obtain ⟨k, hk, rfl, A9⟩ := hrel
    clear A8
    by_cases hlt : k < 5
    · have hlt' : (k : Int) < 5 := by omega
      have hkb : k < Pk.badRows.length := hlt
      obtain ⟨c0, c1, c2, c3⟩ := A9.out.r.cell k hkb
      rw [Nat.zero_add] at c0 c1 c2 c3
      have g0 : wr.cell? ⟨bg, 0, none⟩ = some (.int .i64 900) := cell_of_heap A9.out.g 0
      have g1 : wr.cell? ⟨bg, 1, none⟩ = some (.int .i64 0) := cell_of_heap A9.out.g 1
      have g2 : wr.cell? ⟨bg, 2, none⟩ = some (.int .i64 0) := cell_of_heap A9.out.g 2
      have g3 : wr.cell? ⟨bg, 3, none⟩ = some (.int .i64 1) := cell_of_heap A9.out.g 3
      have HBR := hide (Pk.bad_row t hkb)
      generalize hbk : Pk.badRows[k] = c at *
      obtain ⟨⟨p, u, v⟩, m⟩ := c
      simp only [] at *
      have HBK := hide hbk
      clear hbk
      have HXS : ∀ w', Hid (BT w w' gx bg br Q t → (fun w' => w'.cell? ⟨bg, 0, none⟩ = some (.int .i64 900) ∧ w'.cell? ⟨bg, 1, none⟩ = some (.int .i64 0) ∧ w'.cell? ⟨bg, 2, none⟩ = some (.int .i64 0) ∧ w'.cell? ⟨bg, 3, none⟩ = some (.int .i64 1) ∧ w'.cell? ⟨br, k * 4, none⟩ = some (.int .i64 p) ∧ w'.cell? ⟨br, k * 4 + 1, none⟩ = some (.int .i64 u) ∧ w'.cell? ⟨br, k * 4 + 2, none⟩ = some (.int .i64 v) ∧ w'.cell? ⟨br, k * 4 + 3, none⟩ = some (.int .i64 m) ∧ Hid (BT w w' gx bg br Q t)) w') := fun w' hb => by
        obtain ⟨c0, c1, c2, c3⟩ := hb.r.cell k hkb
        rw [Nat.zero_add, HBK.out] at c0 c1 c2 c3
        exact ⟨cell_of_heap hb.g 0, cell_of_heap hb.g 1, cell_of_heap hb.g 2, cell_of_heap hb.g 3, c0, c1, c2, c3, hb⟩
      have HCS : Hid (∀ W : World, XVx (W.alloc (.cells #[.int .i64 900, .int .i64 0, .int .i64 0, .int .i64 1, .int .i64 p, .int .i64 u, .int .i64 v, .int .i64 m] 47)).drew gx Q t → Calls Tryz.prog 41 #[.pointer (some ⟨gx, 0, none⟩), .slice (some ⟨W.heap.size, 0, none⟩) 2 2, .int .i64 7, .int .i64 1] (W.alloc (.cells #[.int .i64 900, .int .i64 0, .int .i64 0, .int .i64 1, .int .i64 p, .int .i64 u, .int .i64 v, .int .i64 m] 47)).drew fun e w' => RtPost (W.alloc (.cells #[.int .i64 900, .int .i64 0, .int .i64 0, .int .i64 1, .int .i64 p, .int .i64 u, .int .i64 v, .int .i64 m] 47)).drew gx Q t e w') := fun W hW => rf_true hW [Pk.gd, ((p, u, v), m)] _ (below_drew0 _) 2 7 1 1 rfl rfl rfl (by simp) HBR.out (by decide)
      go_upto_region 7 with fail
      clear c0 c1 c2 c3 g0 g1 g2 g3
      go_region_held3 (fun w' => w'.cell? ⟨bg, 0, none⟩ = some (.int .i64 900) ∧ w'.cell? ⟨bg, 1, none⟩ = some (.int .i64 0) ∧ w'.cell? ⟨bg, 2, none⟩ = some (.int .i64 0) ∧ w'.cell? ⟨bg, 3, none⟩ = some (.int .i64 1) ∧ w'.cell? ⟨br, k * 4, none⟩ = some (.int .i64 p) ∧ w'.cell? ⟨br, k * 4 + 1, none⟩ = some (.int .i64 u) ∧ w'.cell? ⟨br, k * 4 + 2, none⟩ = some (.int .i64 v) ∧ w'.cell? ⟨br, k * 4 + 3, none⟩ = some (.int .i64 m) ∧ Hid (BT w w' gx bg br Q t)) (first | exact (HXS _).out (A9.out.below (below_drew0 _)) | (refine (HXS _).out ?_; go_split_ands; first | exact BT.alloc (Hid.out (by assumption)) _ | exact BT.rf (Hid.out (by assumption)) (by assumption) (by assumption))) ((go_at_call 41; refine (HCS.out _ (by go_split_ands; exact (Hid.out (by assumption) : BT w _ gx bg br Q t).x)).mono ?_; rintro e w3 ⟨rfl, bu3, xv3⟩))
      rename_i hH
      have A10 := hH.2.2.2.2.2.2.2.2
      clear hH bu3 xv3 HCS HXS
      go_wp2
      go_roundw
      case rel => exact ⟨k + 1, by omega, by go_num, A10⟩
      case measure => simp [intOf]; omega
    · have hlt' : ¬ (k : Int) < 5 := by omega
      generalize wr = wa at *
      go_upto_region 11 with fail
      have C1 : Hid (BT2 w (wa.alloc (.cells #[.int .i64 0, .int .i64 41, .int .i64 (-41), .int .i64 9223372036854775807, .int .i64 (-9223372036854775808)] 3)) gx bg br wa.heap.size Q t) := ⟨A9.out.alloc _, heap_alloc_new wa _⟩
      generalize wa.alloc (.cells #[.int .i64 0, .int .i64 41, .int .i64 (-41), .int .i64 9223372036854775807, .int .i64 (-9223372036854775808)] 3) = wb at *
      generalize wa.heap.size = bn at *
      clear A9
      go_wp2
      go_loopw [11] (fun i wr => ∃ k : Nat, k ≤ 5 ∧ i = .int .i64 k ∧ Hid (BT2 w wr gx bg br bn Q t)) (fun i _ => 5 - (intOf i).toNat)
      case atStart => exact ⟨0, by omega, rfl, C1⟩
      case round =>
        obtain ⟨k, hk, rfl, A9⟩ := hrel
        clear C1
        by_cases hlt : k < 5
        · have hlt' : (k : Int) < 5 := by omega
          have hkb : k < Pk.badCnt.length := hlt
          have HBC := hide (Pk.bad_cnt t hkb)
          generalize hbk : Pk.badCnt[k] = cn at *
          have HBK := hide hbk
          clear hbk
          have HXS : ∀ w', Hid (BT2 w w' gx bg br bn Q t → (fun w' => w'.cell? ⟨bg, 0, none⟩ = some (.int .i64 900) ∧ w'.cell? ⟨bg, 1, none⟩ = some (.int .i64 0) ∧ w'.cell? ⟨bg, 2, none⟩ = some (.int .i64 0) ∧ w'.cell? ⟨bg, 3, none⟩ = some (.int .i64 1) ∧ w'.cell? ⟨bn, k, none⟩ = some (.int .i64 cn) ∧ w'.cell? ⟨br, 0, none⟩ = some (.int .i64 1001) ∧ w'.cell? ⟨br, 1, none⟩ = some (.int .i64 0) ∧ w'.cell? ⟨br, 2, none⟩ = some (.int .i64 0) ∧ w'.cell? ⟨br, 3, none⟩ = some (.int .i64 1) ∧ Hid (BT2 w w' gx bg br bn Q t)) w') := fun w' hb => by
            have hc := hb.cnt hkb
            rw [HBK.out] at hc
            obtain ⟨c0, c1, c2, c3⟩ := hb.1.r.cell 0 (by decide)
            exact ⟨cell_of_heap hb.1.g 0, cell_of_heap hb.1.g 1, cell_of_heap hb.1.g 2, cell_of_heap hb.1.g 3, hc, c0, c1, c2, c3, hb⟩
          have HCS : Hid (∀ W : World, XVx (W.alloc (.cells #[.int .i64 900, .int .i64 0, .int .i64 0, .int .i64 1, .int .i64 900, .int .i64 0, .int .i64 0, .int .i64 1, .int .i64 1, .int .i64 1, .int .i64 1, .int .i64 cn, .int .i64 1001, .int .i64 0, .int .i64 0, .int .i64 1] 47)) gx Q t → Calls Tryz.prog 41 #[.pointer (some ⟨gx, 0, none⟩), .slice (some ⟨W.heap.size, 0, none⟩) 4 4, .int .i64 8, .int .i64 2] (W.alloc (.cells #[.int .i64 900, .int .i64 0, .int .i64 0, .int .i64 1, .int .i64 900, .int .i64 0, .int .i64 0, .int .i64 1, .int .i64 1, .int .i64 1, .int .i64 1, .int .i64 cn, .int .i64 1001, .int .i64 0, .int .i64 0, .int .i64 1] 47)) fun e w' => RtPost (W.alloc (.cells #[.int .i64 900, .int .i64 0, .int .i64 0, .int .i64 1, .int .i64 900, .int .i64 0, .int .i64 0, .int .i64 1, .int .i64 1, .int .i64 1, .int .i64 1, .int .i64 cn, .int .i64 1001, .int .i64 0, .int .i64 0, .int .i64 1] 47)) gx Q t e w') := fun W hW => rf_true hW [Pk.gd, Pk.gd, ((1, 1, 1), cn), ((1001, 0, 0), 1)] _ (Below.refl _ _) 4 8 2 2 rfl rfl rfl (by simp) HBC.out (by decide)
          go_upto_region 14 with fail
          go_region_held3 (fun w' => w'.cell? ⟨bg, 0, none⟩ = some (.int .i64 900) ∧ w'.cell? ⟨bg, 1, none⟩ = some (.int .i64 0) ∧ w'.cell? ⟨bg, 2, none⟩ = some (.int .i64 0) ∧ w'.cell? ⟨bg, 3, none⟩ = some (.int .i64 1) ∧ w'.cell? ⟨bn, k, none⟩ = some (.int .i64 cn) ∧ w'.cell? ⟨br, 0, none⟩ = some (.int .i64 1001) ∧ w'.cell? ⟨br, 1, none⟩ = some (.int .i64 0) ∧ w'.cell? ⟨br, 2, none⟩ = some (.int .i64 0) ∧ w'.cell? ⟨br, 3, none⟩ = some (.int .i64 1) ∧ Hid (BT2 w w' gx bg br bn Q t)) (first | exact (HXS _).out (A9.out.below (below_drew0 _)) | (refine (HXS _).out ?_; go_split_ands; first | exact BT2.alloc (Hid.out (by assumption)) _ | exact BT2.below (Hid.out (by assumption)) (by assumption) | exact BT2.rf (Hid.out (by assumption)) (by assumption) (by assumption))) (first | (go_at_call 14; refine (one_any2 1 1 1 cn _).mono ?_; rintro e w2 ⟨rfl, b2⟩) | (go_at_call 41; refine (HCS.out _ (by go_split_ands; exact (Hid.out (by assumption) : BT2 w _ gx bg br bn Q t).1.x)).mono ?_; rintro e w3 ⟨rfl, bu3, xv3⟩))
          rename_i hH
          have A10 := hH.2.2.2.2.2.2.2.2.2
          clear hH bu3 xv3 HCS HXS b2
          go_wp2
          go_roundw
          case rel => exact ⟨k + 1, by omega, by go_num, A10⟩
          case measure => simp [intOf]; omega
        · have hlt' : ¬ (k : Int) < 5 := by omega
          have A10 : Hid (BT w wr gx bg br Q t) := A9.out.1
          clear A9
          generalize wr = wd at *
          go_wp2
          go_loopw [13, 14] (fun o i wz => ∃ k : Nat, k ≤ 51 ∧ i = .int .i64 k ∧ (∃ x n c, o = .slice x n c) ∧ Hid (Below wd.heap.size wd wz) ∧ Hid (wz.ownsRow wd.heap.size 47 4 o k (rchgs (List.replicate k ((1001, 0, 0), 1))))) (fun _ i _ => 51 - (intOf i).toNat)
          case atStart => exact ⟨0, by omega, rfl, ⟨_, _, _, rfl⟩, Below.refl _ _, World.ownsRow_nil _ _ _ _⟩
          case round =>
            obtain ⟨k, hk, rfl, ⟨xo, no, co, rfl⟩, BZ, OZ⟩ := hrel
            have hbz := BZ.out.size
            by_cases hlt : k < 51
            · have hlt' : (k : Int) ≤ 50 := by omega
              obtain ⟨c0, c1, c2, c3⟩ := (A10.out.r.below BZ.out).cell 0 (by decide)
              have d0 : wr.cell? ⟨br, 0, none⟩ = some (.int .i64 1001) := c0
              have d1 : wr.cell? ⟨br, 1, none⟩ = some (.int .i64 0) := c1
              have d2 : wr.cell? ⟨br, 2, none⟩ = some (.int .i64 0) := c2
              have d3 : wr.cell? ⟨br, 3, none⟩ = some (.int .i64 1) := c3
              clear c0 c1 c2 c3
              have HRS : Hid (rchgs (List.replicate (k + 1) ((1001, 0, 0), 1)) = rchgs (List.replicate k ((1001, 0, 0), 1)) ++ rchg ((1001, 0, 0), 1)) := by
                show _ = _
                rw [List.replicate_succ', rchgs_snoc]
              have hrl : (rchgs (List.replicate k (((1001, 0, 0), 1) : Pv.Chg))).length = k * 4 := by rw [rchgs_len, List.length_replicate]
              generalize rchgs (List.replicate k ((1001, 0, 0), 1)) = cur at *
              go_wp2_with (at_builtin; refine wpList_append_own_at _ rfl (.tmp 70) (.tmp 74) 38 rfl wd.heap.size 47 i0 _ 4 32 Tryz.underlying38 hi hz0 hz1 hz2 rfl (by decide) _ k cur rfl (OZ.out.alloc _) _ 1 1 (rchg ((1001, 0, 0), 1)) rfl rfl (World.news_of_block (heap_alloc_new _ _)) (by intro u hu; simp [rchg] at hu; rcases hu with rfl | rfl | rfl | rfl <;> rfl) (by unfold maxLen; omega) (by omega) (by simp; omega) ?_; intro v8 w9 hown8 hgrow8 hnil8 hat8; have B9 := hide ((BZ.out.alloc hbz _).grown hgrow8 (by simp; omega) (fun k hk => (OZ.out.lt k hk).1)); have O9 := hide hown8; clear hown8 hgrow8 hnil8 hat8)
              obtain ⟨x8, c8, rfl⟩ := ownS O9.out
              go_roundw
              case rel => exact ⟨k + 1, by omega, by go_num, ⟨_, _, _, rfl⟩, B9, by rw [HRS.out]; exact O9⟩
              case measure => simp [intOf]; omega
            · have hlt' : ¬ (k : Int) ≤ 50 := by omega
              obtain rfl : k = 51 := by omega
              have A20 := hide (A10.out.below BZ.out)
              have L20 := hide (RdC.ofOwn (l := List.replicate 51 ((1001, 0, 0), 1)) OZ.out)
              clear A10 BZ OZ
              generalize wr = wf at *
              go_wp2_with fail
              refine (rf_list A20.out.x L20.out 1 0 0 rfl (by simp) (Pk.bad_long t (by simp)) (by decide)).mono ?_
              rintro e w21 ⟨rfl, bu, xv⟩
              have A21 := hide (A20.out.rf bu xv)
              clear bu xv A20 L20
              go_wp2_with fail
              refine (one_any2 900 1 1 3 w21).mono ?_
              rintro e w22 ⟨rfl, b22⟩
              go_wp2_with fail
              refine (one_any2 900 0 0 2 w22).mono ?_
              rintro e w23 ⟨rfl, b23⟩
              go_wp2_with fail
              refine (one_any2 900 0 0 (-3) w23).mono ?_
              rintro e w24 ⟨rfl, b24⟩
              go_wp2_with fail
              refine (one_any2 900 1 1 (-1) w24).mono ?_
              rintro e w25 ⟨rfl, b25⟩
              have A25 := hide ((((A21.out.below b22).below b23).below b24).below b25)
              clear b22 b23 b24 b25 A21
              go_wp2_with fail
              refine (rf_true (A25.out.alloc _).x [((900, 1, 1), 3), ((900, 0, 0), 2), ((900, 0, 0), -3), ((900, 1, 1), -1)] _ (Below.refl _ _) 4 9 1 1 rfl rfl rfl (by simp) (Pk.firm_less1 HN.out) (by decide)).mono ?_
              rintro e w33 ⟨rfl, bu, xv⟩
              have A33 := hide ((A25.out.alloc _).rf bu xv)
              clear bu xv A25
              have hsw : IntKind.i64.wrap (40 - all) = 40 - all := wrap_id2 (by omega) (by omega)
              by_cases hal : all < 40
              · have hal' : (all == 40) = false := by rw [beq_eq_false_iff_ne]; omega
                have HXS : ∀ w', Hid (BT w w' gx bg br Q t → (fun w' => w'.cell? ⟨bg, 0, none⟩ = some (.int .i64 900) ∧ w'.cell? ⟨bg, 1, none⟩ = some (.int .i64 0) ∧ w'.cell? ⟨bg, 2, none⟩ = some (.int .i64 0) ∧ w'.cell? ⟨bg, 3, none⟩ = some (.int .i64 1) ∧ Hid (BT w w' gx bg br Q t)) w') := fun w' hb => ⟨cell_of_heap hb.g 0, cell_of_heap hb.g 1, cell_of_heap hb.g 2, cell_of_heap hb.g 3, hb⟩
                have HCS : Hid (∀ W : World, XVx (W.alloc (.cells #[.int .i64 900, .int .i64 1, .int .i64 1, .int .i64 (40 - all), .int .i64 900, .int .i64 0, .int .i64 0, .int .i64 1] 47)) gx Q t → Calls Tryz.prog 41 #[.pointer (some ⟨gx, 0, none⟩), .slice (some ⟨W.heap.size, 0, none⟩) 2 2, .int .i64 10, .int .i64 0] (W.alloc (.cells #[.int .i64 900, .int .i64 1, .int .i64 1, .int .i64 (40 - all), .int .i64 900, .int .i64 0, .int .i64 0, .int .i64 1] 47)) fun e w' => RtPost (W.alloc (.cells #[.int .i64 900, .int .i64 1, .int .i64 1, .int .i64 (40 - all), .int .i64 900, .int .i64 0, .int .i64 0, .int .i64 1] 47)) gx Q t e w') := fun W hW => rf_true hW [((900, 1, 1), 40 - all), Pk.gd] _ (Below.refl _ _) 2 10 0 0 rfl rfl rfl (by simp) (Pk.firm_full HN.out HT.out h1 hal) (by decide)
                go_upto_region 24 with fail
                go_region_held3 (fun w' => w'.cell? ⟨bg, 0, none⟩ = some (.int .i64 900) ∧ w'.cell? ⟨bg, 1, none⟩ = some (.int .i64 0) ∧ w'.cell? ⟨bg, 2, none⟩ = some (.int .i64 0) ∧ w'.cell? ⟨bg, 3, none⟩ = some (.int .i64 1) ∧ Hid (BT w w' gx bg br Q t)) (first | exact (HXS _).out (A33.out.below (below_drew0 _)) | (refine (HXS _).out ?_; go_split_ands; first | exact BT.alloc (Hid.out (by assumption)) _ | exact BT.below (Hid.out (by assumption)) (by assumption) | exact BT.rf (Hid.out (by assumption)) (by assumption) (by assumption))) (first | (go_at_call 14; refine (one_any2 900 1 1 (40 - all) _).mono ?_; rintro e w2 ⟨rfl, b2⟩) | (go_at_call 41; refine (HCS.out _ (by go_split_ands; exact (Hid.out (by assumption) : BT w _ gx bg br Q t).x)).mono ?_; rintro e w34 ⟨rfl, bu3, xv3⟩))
                rename_i hH
                have A34 := hH.2.2.2.2
                clear hH bu3 xv3 HCS HXS b2 A33
                have A40 := A34
                clear A34
                generalize w34 = w40 at *
                go_wp2_with fail
                refine (one_any2 900 1 1 40 w40).mono ?_
                rintro e w41 ⟨rfl, b41⟩
                go_wp2_with fail
                refine (one_any2 900 0 0 40 w41).mono ?_
                rintro e w42 ⟨rfl, b42⟩
                go_wp2_with fail
                refine (one_any2 900 2 2 (-1) w42).mono ?_
                rintro e w43 ⟨rfl, b43⟩
                have A43 := hide (((A40.out.below b41).below b42).below b43)
                clear b41 b42 b43 A40
                go_wp2_with fail
                refine (rf_true (A43.out.alloc _).x [((900, 1, 1), 40), ((900, 0, 0), 40), ((900, 2, 2), -1)] _ (Below.refl _ _) 3 9 2 2 rfl rfl rfl (by simp) (Pk.firm_less2 HN.out) (by decide)).mono ?_
                rintro e w44 ⟨rfl, bu, xv⟩
                have A44 := hide ((A43.out.alloc _).rf bu xv)
                clear bu xv A43
                go_wp2
                go_ret
                exact ⟨by simp, A44.out.bu, A44.out.x⟩
              · obtain rfl : all = 40 := by omega
                clear hsw
                have HXS : ∀ w', Hid (BT w w' gx bg br Q t → (fun w' => w'.cell? ⟨bg, 0, none⟩ = some (.int .i64 900) ∧ w'.cell? ⟨bg, 1, none⟩ = some (.int .i64 0) ∧ w'.cell? ⟨bg, 2, none⟩ = some (.int .i64 0) ∧ w'.cell? ⟨bg, 3, none⟩ = some (.int .i64 1) ∧ Hid (BT w w' gx bg br Q t)) w') := fun w' hb => ⟨cell_of_heap hb.g 0, cell_of_heap hb.g 1, cell_of_heap hb.g 2, cell_of_heap hb.g 3, hb⟩
                have HCS : Hid (∀ W : World, XVx (W.alloc (.cells #[.int .i64 900, .int .i64 1, .int .i64 1, .int .i64 0, .int .i64 900, .int .i64 0, .int .i64 0, .int .i64 1] 47)) gx Q t → Calls Tryz.prog 41 #[.pointer (some ⟨gx, 0, none⟩), .slice (some ⟨W.heap.size, 0, none⟩) 2 2, .int .i64 10, .int .i64 0] (W.alloc (.cells #[.int .i64 900, .int .i64 1, .int .i64 1, .int .i64 0, .int .i64 900, .int .i64 0, .int .i64 0, .int .i64 1] 47)) fun e w' => RnPost (W.alloc (.cells #[.int .i64 900, .int .i64 1, .int .i64 1, .int .i64 0, .int .i64 900, .int .i64 0, .int .i64 0, .int .i64 1] 47)) gx Q t e w') := fun W hW => by
                    refine (refused_any hW (RdC.new W [((900, 1, 1), 0), Pk.gd] _ 2 rfl rfl) (by simp) (by rw [Pk.ref_scan (x := (8, 0)) (by simp) (by decide)]; decide) 10 0).mono ?_
                    rintro e w' ⟨he, bu, xv⟩
                    rw [Pk.ref_scan (x := (8, 0)) (by simp) (by decide)] at he
                    exact ⟨he.trans rfl, bu, xv⟩
                go_upto_region 24 with fail
                go_region_held3 (fun w' => w'.cell? ⟨bg, 0, none⟩ = some (.int .i64 900) ∧ w'.cell? ⟨bg, 1, none⟩ = some (.int .i64 0) ∧ w'.cell? ⟨bg, 2, none⟩ = some (.int .i64 0) ∧ w'.cell? ⟨bg, 3, none⟩ = some (.int .i64 1) ∧ Hid (BT w w' gx bg br Q t)) (first | exact (HXS _).out (A33.out.below (below_drew0 _)) | (refine (HXS _).out ?_; go_split_ands; first | exact BT.alloc (Hid.out (by assumption)) _ | exact BT.below (Hid.out (by assumption)) (by assumption) | exact BT.rf (Hid.out (by assumption)) (by assumption) (by assumption))) (first | (go_at_call 14; refine (one_any2 900 1 1 0 _).mono ?_; rintro e w2 ⟨rfl, b2⟩) | (go_at_call 41; refine (HCS.out _ (by go_split_ands; exact (Hid.out (by assumption) : BT w _ gx bg br Q t).x)).mono ?_; rintro e w34 ⟨rfl, bu3, xv3⟩))
                rename_i hH
                have A34 := hH.2.2.2.2
                clear hH bu3 xv3 HCS HXS b2 A33
                have g0 : w34.cell? ⟨bg, 0, none⟩ = some (.int .i64 900) := cell_of_heap A34.out.g 0
                have g1 : w34.cell? ⟨bg, 1, none⟩ = some (.int .i64 0) := cell_of_heap A34.out.g 1
                have g2 : w34.cell? ⟨bg, 2, none⟩ = some (.int .i64 0) := cell_of_heap A34.out.g 2
                have g3 : w34.cell? ⟨bg, 3, none⟩ = some (.int .i64 1) := cell_of_heap A34.out.g 3
                go_wp2_with fail
                refine (rf_true (A34.out.alloc _).x [Pk.gd] _ (Below.refl _ _) 1 10 0 0 rfl rfl rfl (by simp) (Pk.firm_full2 HN.out HT.out) (by decide)).mono ?_
                rintro e w40 ⟨rfl, bu, xv⟩
                have A40 := hide ((A34.out.alloc _).rf bu xv)
                clear bu xv A34 g0 g1 g2 g3
                go_wp2_with fail
                refine (one_any2 900 1 1 40 w40).mono ?_
                rintro e w41 ⟨rfl, b41⟩
                go_wp2_with fail
                refine (one_any2 900 0 0 40 w41).mono ?_
                rintro e w42 ⟨rfl, b42⟩
                go_wp2_with fail
                refine (one_any2 900 2 2 (-1) w42).mono ?_
                rintro e w43 ⟨rfl, b43⟩
                have A43 := hide (((A40.out.below b41).below b42).below b43)
                clear b41 b42 b43 A40
                go_wp2_with fail
                refine (rf_true (A43.out.alloc _).x [((900, 1, 1), 40), ((900, 0, 0), 40), ((900, 2, 2), -1)] _ (Below.refl _ _) 3 9 2 2 rfl rfl rfl (by simp) (Pk.firm_less2 HN.out) (by decide)).mono ?_
                rintro e w44 ⟨rfl, bu, xv⟩
                have A44 := hide ((A43.out.alloc _).rf bu xv)
                clear bu xv A43
                go_wp2
                go_ret
                exact ⟨by simp, A44.out.bu, A44.out.x⟩
end Go.Proofs.YtcoofnhdbejnpabGreatDoor

/- Package paneskeep: refusals, queries. -/
namespace Go.Proofs.YtcoofnhdbejnpabGreatDoor
open Go.RowKit
/-- queries that may not be, with the error and its place -/
def refTab : List (Pq.Bytes × Int × Int) := [([], 3, 0), ([111, 114, 100, 101, 114, 32, 107], 3, 7), ([111, 114, 100, 101, 114, 32, 107, 32, 115, 104, 111, 119, 32, 110, 117, 109, 98, 101, 114, 40], 3, 19), ([111, 114, 100, 101, 114, 32, 107, 32, 115, 104, 111, 119, 32, 116, 105, 108, 101, 40, 49, 48, 48, 41], 2, 18), ([111, 114, 100, 101, 114, 32, 107, 32, 115, 104, 111, 119, 32, 116, 105, 108, 101, 40, 48, 41], 6, 18), ([98, 121, 32, 112, 44, 32, 112, 32, 111, 114, 100, 101, 114, 32, 107, 32, 115, 104, 111, 119, 32, 114, 97, 110, 107], 5, 6), ([111, 114, 100, 101, 114, 32, 107, 44, 32, 107, 32, 100, 101, 115, 99, 32, 115, 104, 111, 119, 32, 114, 97, 110, 107], 5, 9), ([111, 114, 100, 101, 114, 32, 107, 32, 115, 104, 111, 119, 32, 114, 97, 110, 107, 44, 32, 114, 97, 110, 107, 44, 32, 114, 97, 110, 107, 44, 32, 114, 97, 110, 107, 44, 32, 100, 101, 110, 115, 101], 4, 37), ([111, 114, 100, 101, 114, 32, 120, 32, 115, 104, 111, 119, 32, 114, 97, 110, 107], 3, 6), ([111, 114, 100, 101, 114, 32, 107, 32, 115, 104, 111, 119, 32, 115, 117, 109, 40, 118, 44, 32, 49, 32, 111, 110, 32, 116, 111, 41], 3, 27), ([111, 114, 100, 101, 114, 32, 107, 32, 115, 104, 111, 119, 32, 114, 97, 110, 107, 32, 116, 111, 112], 3, 21), ([111, 114, 100, 101, 114, 32, 107, 32, 115, 104, 111, 119, 32, 114, 97, 110, 107, 33], 2, 17)]
def refCells (l : List (Pq.Bytes × Int × Int)) : List Value := l.flatMap (fun x => [.string ⟨x.1.toArray⟩, .int .i64 x.2.1, .int .i64 x.2.2])
theorem refTab_len : refTab.length = 12 := rfl
set_option maxRecDepth 100000 in
theorem refTab_ok : refTab.all (fun x => decide (Pq.readE x.1 = x.2.1) && (decide (Pq.readP x.1 = x.2.2) && (decide (x.2.1 ≠ 0) && decide (x.1.length ≤ 300)))) = true := by decide +kernel
theorem ref_ok {j : Nat} (h : j < refTab.length) : Pq.readE refTab[j].1 = refTab[j].2.1 ∧ Pq.readP refTab[j].1 = refTab[j].2.2 ∧ refTab[j].2.1 ≠ 0 ∧ refTab[j].1.length ≤ 300 := by
  have := List.all_eq_true.1 refTab_ok refTab[j] (List.getElem_mem h)
  simpa using this
theorem refCells_get : ∀ (l : List (Pq.Bytes × Int × Int)) (j : Nat) (h : j < l.length), (refCells l)[j * 3]? = some (.string ⟨l[j].1.toArray⟩) ∧ (refCells l)[j * 3 + 1]? = some (.int .i64 l[j].2.1) ∧ (refCells l)[j * 3 + 2]? = some (.int .i64 l[j].2.2)
  | [], j, h => by simp at h
  | x :: l, 0, _ => ⟨rfl, rfl, rfl⟩
  | x :: l, j + 1, h => by
    have ih := refCells_get l j (by simpa using h)
    have e : ∀ i, (refCells (x :: l))[(j + 1) * 3 + i]? = (refCells l)[j * 3 + i]? := fun i => by
      have : (j + 1) * 3 + i = (j * 3 + i) + 3 := by omega
      rw [this]
      rfl
    have e0 := e 0
    rw [Nat.add_zero, Nat.add_zero] at e0
    refine ⟨?_, ?_, ?_⟩
    · rw [e0]; exact ih.1
    · rw [e 1]; exact ih.2.1
    · rw [e 2]; exact ih.2.2
def RefPost (w : World) (e : Ending) (w' : World) : Prop := Below w.heap.size w w' ∧ ∃ g, e = .returned (.slice (some ⟨g, 0, none⟩) 12 12) ∧ w'.heap[g]? = some (.cells (refCells refTab).toArray 104 (0, 0))
set_option maxRecDepth 100000 in
set_option maxHeartbeats 2000000 in
theorem refusals_any (w : World) : Calls Tryz.prog 39 #[] w fun e w' => RefPost w e w' := by
  have HT : Hid ((refCells refTab).toArray = #[.string ⟨#[]⟩, .int .i64 3, .int .i64 0, .string ⟨#[111, 114, 100, 101, 114, 32, 107]⟩, .int .i64 3, .int .i64 7, .string ⟨#[111, 114, 100, 101, 114, 32, 107, 32, 115, 104, 111, 119, 32, 110, 117, 109, 98, 101, 114, 40]⟩, .int .i64 3, .int .i64 19, .string ⟨#[111, 114, 100, 101, 114, 32, 107, 32, 115, 104, 111, 119, 32, 116, 105, 108, 101, 40, 49, 48, 48, 41]⟩, .int .i64 2, .int .i64 18, .string ⟨#[111, 114, 100, 101, 114, 32, 107, 32, 115, 104, 111, 119, 32, 116, 105, 108, 101, 40, 48, 41]⟩, .int .i64 6, .int .i64 18, .string ⟨#[98, 121, 32, 112, 44, 32, 112, 32, 111, 114, 100, 101, 114, 32, 107, 32, 115, 104, 111, 119, 32, 114, 97, 110, 107]⟩, .int .i64 5, .int .i64 6, .string ⟨#[111, 114, 100, 101, 114, 32, 107, 44, 32, 107, 32, 100, 101, 115, 99, 32, 115, 104, 111, 119, 32, 114, 97, 110, 107]⟩, .int .i64 5, .int .i64 9, .string ⟨#[111, 114, 100, 101, 114, 32, 107, 32, 115, 104, 111, 119, 32, 114, 97, 110, 107, 44, 32, 114, 97, 110, 107, 44, 32, 114, 97, 110, 107, 44, 32, 114, 97, 110, 107, 44, 32, 100, 101, 110, 115, 101]⟩, .int .i64 4, .int .i64 37, .string ⟨#[111, 114, 100, 101, 114, 32, 120, 32, 115, 104, 111, 119, 32, 114, 97, 110, 107]⟩, .int .i64 3, .int .i64 6, .string ⟨#[111, 114, 100, 101, 114, 32, 107, 32, 115, 104, 111, 119, 32, 115, 117, 109, 40, 118, 44, 32, 49, 32, 111, 110, 32, 116, 111, 41]⟩, .int .i64 3, .int .i64 27, .string ⟨#[111, 114, 100, 101, 114, 32, 107, 32, 115, 104, 111, 119, 32, 114, 97, 110, 107, 32, 116, 111, 112]⟩, .int .i64 3, .int .i64 21, .string ⟨#[111, 114, 100, 101, 114, 32, 107, 32, 115, 104, 111, 119, 32, 114, 97, 110, 107, 33]⟩, .int .i64 2, .int .i64 17]) := rfl
  go_enter Tryz.func39, Tryz.ntmps39
  go_wp2
  go_ret
  refine ⟨(Below.refl _ _).alloc (Nat.le_refl _) _, w.heap.size, rfl, ?_⟩
  rw [HT.out]
  exact heap_alloc_new w _
end Go.Proofs.YtcoofnhdbejnpabGreatDoor

