/- A view and the counts beside each other: a batch made, a batch applied. -/
import Derived.Test.YtcoofnhdbejnpabGreatDoorG39
import Derived.Test.YtcoofnhdbejnpabGreatDoorG06
import Derived.Test.YtcoofnhdbejnpabGreatDoorG11
namespace Go.Proofs.YtcoofnhdbejnpabGreatDoor
open Go.RowKit
/-- the blocks that turn are of none of these types -/
def Off (S : Nat → Prop) (w : World) (p : Nat → Prop) : Prop := ∀ k, S k → k < w.heap.size → ∃ cur T fz, w.heap[k]? = some (.cells cur T fz) ∧ ¬ p T
theorem Off.ne {S : Nat → Prop} {w : World} {p : Nat → Prop} (h : Off S w p) {k T : Nat} {cur : Array Value} {fz : Nat × Nat} (hk : w.heap[k]? = some (.cells cur T fz)) (hT : p T) : ¬ S k := fun hs => by
  obtain ⟨c, T', f, e, hn⟩ := h k hs (Array.getElem?_eq_some_iff.1 hk).1
  rw [hk] at e
  cases e
  exact hn hT
theorem RdG.but {T sz : Nat} {w w' : World} {v : Value} {n : Nat} {cs : List Value} (h : RdG T sz w v n cs) {S : Nat → Prop} {p : Nat → Prop} (hb : But S w w') (ho : Off S w p) (hT : p T) : RdG T sz w' v n cs := by
  refine ⟨h.1, ?_⟩
  rcases h.2 with h | ⟨g, off, cap, cur, fz, h1, h2, h3, h4⟩
  · exact .inl h
  · exact .inr ⟨g, off, cap, cur, fz, h1, h2, (hb.block g (Array.getElem?_eq_some_iff.1 h3).1 (ho.ne h3 hT)).trans h3, h4⟩
theorem RdC.but {w w' : World} {v : Value} {l : List Pv.Chg} (h : RdC w v l) {S : Nat → Prop} {p : Nat → Prop} (hb : But S w w') (ho : Off S w p) (hT : p 47) : RdC w' v l := by
  rcases h with h | ⟨g, off, cap, cur, fz, h1, h2, h3, h4⟩
  · exact .inl h
  · exact .inr ⟨g, off, cap, cur, fz, h1, h2, (hb.block g (Array.getElem?_eq_some_iff.1 h3).1 (ho.ne h3 hT)).trans h3, h4⟩
theorem RdO.but {w w' : World} {v : Value} {l : List Pv.Out} (h : RdO w v l) {S : Nat → Prop} {p : Nat → Prop} (hb : But S w w') (ho : Off S w p) (h1 : p 112) (h2 : p 109) : RdO w' v l := by
  obtain ⟨vs, hv, hr⟩ := h
  refine ⟨vs, ⟨hv.1, fun j hj hj2 => ?_⟩, RdG.but hr hb ho h2⟩
  exact RdG.but (hv.2 j hj hj2) hb ho h1
theorem QX.but {w w' : World} {vb vk vf : Value} {has : Bool} {tp fr : Int} {Q : Pv.Qry} (h : QX w vb vk vf has tp fr Q) {S : Nat → Prop} {p : Nat → Prop} (hb : But S w w') (ho : Off S w p) (h1 : p 195) (h2 : p 206) (h3 : p 203) : QX w' vb vk vf has tp fr Q :=
  ⟨RdG.but h.rb hb ho h1, RdG.but h.rk hb ho h2, RdG.but h.rf hb ho h3, h.bl, h.bc, h.kl, h.kc, h.k0, h.fl, h.fo, h.t0, h.t1, h.f0, h.f1, h.fr', h.tt, h.tf⟩
/-- lists that were handed out are as they were -/
structure Kp (w w' : World) : Prop where
  o : ∀ v l, RdO w v l → RdO w' v l
  c : ∀ v l, RdC w v l → RdC w' v l
theorem Kp.trans {w w1 w2 : World} (h : Kp w w1) (k : Kp w1 w2) : Kp w w2 := ⟨fun v l q => k.o v l (h.o v l q), fun v l q => k.c v l (h.c v l q)⟩
theorem Kp.but {w w1 : World} {S : Nat → Prop} {p : Nat → Prop} (hb : But S w w1) (ho : Off S w p) (h1 : p 112) (h2 : p 109) (h3 : p 47) : Kp w w1 := ⟨fun _ _ q => q.but hb ho h1 h2, fun _ _ q => q.but hb ho h3⟩
/-- the types of the counts' blocks -/
def pC (T : Nat) : Prop := T ≠ 33 ∧ T ≠ 45 ∧ T ≠ 3
theorem CM.off {w : World} {bc B : Nat} {vr vn : Value} {cs : List Pv.Chg} {all : Int} (h : CM w bc B vr vn cs all) : Off (CS bc vr vn) w pC := fun k hk _ => by
  obtain ⟨_, cur, T, fz, e, ht⟩ := h.kind k hk
  refine ⟨cur, T, fz, e, fun hp => ?_⟩
  rcases ht with q | q | q
  · exact hp.1 q
  · exact hp.2.1 q
  · exact hp.2.2 q
theorem XV.butC {w w' : World} {bc B gx : Nat} {vr vn vb vk vf vt : Value} {cs : List Pv.Chg} {all : Int} {has : Bool} {tp fr : Int} {Q : Pv.Qry} {t : List Pv.Chg} (h : XV w gx vb vk vf has tp fr vt Q t) (hc : CM w bc B vr vn cs all) (hb : But (CS bc vr vn) w w') : XV w' gx vb vk vf has tp fr vt Q t :=
  ⟨(hb.block gx (Array.getElem?_eq_some_iff.1 h.blk).1 (hc.off.ne h.blk (by unfold pC; decide))).trans h.blk, h.q.but hb hc.off (by unfold pC; decide) (by unfold pC; decide) (by unfold pC; decide), h.rt.but hb hc.off (by unfold pC; decide), h.inv⟩
theorem XV.offX {w : World} {gx : Nat} {vb vk vf vt : Value} {has : Bool} {tp fr : Int} {Q : Pv.Qry} {t : List Pv.Chg} (h : XV w gx vb vk vf has tp fr vt Q t) : Off (fun k => k = gx) w (fun T => T ≠ 91) := fun k hk _ => by
  subst hk
  exact ⟨_, _, _, h.blk, fun hn => hn rfl⟩
/-- a view with the table t, and the counts that say the same -/
def UM (N : Nat) (w wr : World) (bc gx : Nat) (Q : Pv.Qry) (cs : List Pv.Chg) (all : Int) (t : List Pv.Chg) : Prop :=
  Below N w wr ∧ N ≤ bc ∧ N ≤ gx ∧ N ≤ w.heap.size ∧ Pk.CInv cs all ∧ Pk.Same t cs ∧ ∃ vr vn vb vk vf has tp fr vt, CM wr bc N vr vn cs all ∧ XV wr gx vb vk vf has tp fr vt Q t
/-- behind a batch: the counts are ahead -/
def UB (N : Nat) (w wr : World) (bc gx : Nat) (Q : Pv.Qry) (cs : List Pv.Chg) (all : Int) (t : List Pv.Chg) (l : Pq.Bytes) : Prop :=
  Below N w wr ∧ N ≤ bc ∧ N ≤ gx ∧ N ≤ w.heap.size ∧ Pk.CInv cs all ∧ Pk.Same t cs ∧ ∃ vr vn vb vk vf has tp fr vt, CM wr bc N vr vn (Pk.batchF l cs all).cs (Pk.batchF l cs all).all ∧ XV wr gx vb vk vf has tp fr vt Q t
theorem CM.ge {w : World} {bc N : Nat} {vr vn : Value} {cs : List Pv.Chg} {all : Int} (h : CM w bc N vr vn cs all) (hN : N ≤ bc) : ∀ k, k < N → ¬ CS bc vr vn k := fun k hk hc => by
  rcases hc with q | q | q
  · omega
  · have := (own_at h.rr q).1; omega
  · have := (own_at h.rn q).1; omega
theorem But.near {S : Nat → Prop} {N : Nat} {w w1 w2 : World} (h : Below N w w1) (hN : N ≤ w.heap.size) (hb : But S w1 w2) (hS : ∀ k, k < N → ¬ S k) : Below N w w2 := h.trans (hb.below hS (Nat.le_trans hN h.size))
def UBPost (N : Nat) (w wr : World) (bc gx : Nat) (Q : Pv.Qry) (cs : List Pv.Chg) (all : Int) (t : List Pv.Chg) (l : Pq.Bytes) (e : Ending) (w' : World) : Prop :=
  ∃ x n c, e = .returned (.slice x n c) ∧ UB N w w' bc gx Q cs all t l ∧ RdC w' (.slice x n c) (Pk.batchF l cs all).l ∧ Kp wr w'
theorem UM.batch {N : Nat} {w wr : World} {bc gx : Nat} {Q : Pv.Qry} {cs : List Pv.Chg} {all : Int} {t : List Pv.Chg} (h : UM N w wr bc gx Q cs all t) {s : ByteArray} (hs : s.size ≤ maxLen) :
    Calls Tryz.prog 9 #[.pointer (some ⟨bc, 0, none⟩), .string s] wr fun e w' => UBPost N w wr bc gx Q cs all t s.data.toList e w' := by
  obtain ⟨hb, hN1, hN2, hN3, hI, hS, vr, vn, vb, vk, vf, has, tp, fr, vt, hc, hx⟩ := h
  refine (batch_any hc hI (Nat.le_trans hN3 hb.size) hs).mono ?_
  rintro e w' ⟨bu, x, n, c, vr', vn', rfl, own, cm, o1, o2⟩
  exact ⟨x, n, c, rfl, ⟨But.near hb hN3 bu (hc.ge hN1), hN1, hN2, hN3, hI, hS, vr', vn', vb, vk, vf, has, tp, fr, vt, cm, hx.butC hc bu⟩, RdC.ofOwn own, Kp.but bu hc.off (by unfold pC; decide) (by unfold pC; decide) (by unfold pC; decide)⟩
def UAPost (N : Nat) (w wr : World) (bc gx : Nat) (Q : Pv.Qry) (cs : List Pv.Chg) (all : Int) (t bt : List Pv.Chg) (e : Ending) (w' : World) : Prop :=
  ∃ x n c, e = .returned (.tuple #[.slice x n c, .int .i64 0, .int .i64 0]) ∧ UM N w w' bc gx Q cs all (Pv.tableF t bt) ∧ RdO w' (.slice x n c) (Pv.appliedF Q t bt) ∧ Kp wr w'
/-- a batch that is not refused, with counts that say what comes of it -/
theorem xapply_ok {N : Nat} {w wr : World} {bc gx : Nat} {Q : Pv.Qry} {cs : List Pv.Chg} {all : Int} {t bt : List Pv.Chg} {vbt vr vn vb vk vf vt : Value} {has : Bool} {tp fr : Int} (hb : Below N w wr) (hN1 : N ≤ bc) (hN2 : N ≤ gx) (hN3 : N ≤ w.heap.size) (hI : Pk.CInv cs all) (h0 : Pv.refusedF t bt = (0, 0)) (hS : Pk.Same (Pv.tableF t bt) cs) (hl : bt.length ≤ 50) (hc : CM wr bc N vr vn cs all) (hx : XV wr gx vb vk vf has tp fr vt Q t) (hbt : RdC wr vbt bt) :
    Calls Tryz.prog 8 #[.pointer (some ⟨gx, 0, none⟩), vbt] wr fun e w' => UAPost N w wr bc gx Q cs all t bt e w' := by
  have h1 : (Pv.refusedF t bt).1 = 0 := by rw [h0]
  refine (xapply_any hx hbt (by omega)).mono ?_
  rintro e w' ⟨bu, x, n, c, x2, n2, c2, P, rfl, oq, hm, hblk, hor⟩
  have hne : ¬ CS bc vr vn gx := hc.off.ne hx.blk (by unfold pC; decide)
  rcases hor with ⟨hq, _⟩ | ⟨_, own⟩
  · exact absurd h1 hq
  · refine ⟨x, n, c, by rw [h0]; rfl, ⟨But.near hb hN3 bu (fun k hk e => by omega), hN1, hN2, hN3, hI, hS, vr, vn, vb, vk, vf, has, tp, fr, .slice x2 n2 c2, hc.but bu (fun k hk e => hne (e ▸ hk)), ⟨hblk, hx.q.but bu hx.offX (by decide) (by decide) (by decide), RdC.ofOwn own, (hx.inv.next h1).1⟩⟩, ?_, Kp.but bu hx.offX (by decide) (by decide) (by decide)⟩
    rw [← hm]
    exact oq.toP.toO.rd
theorem UB.apply {N : Nat} {w wr : World} {bc gx : Nat} {Q : Pv.Qry} {cs : List Pv.Chg} {all : Int} {t : List Pv.Chg} {l : Pq.Bytes} (h : UB N w wr bc gx Q cs all t l) {v : Value} (hv : RdC wr v (Pk.batchF l cs all).l) :
    Calls Tryz.prog 8 #[.pointer (some ⟨gx, 0, none⟩), v] wr fun e w' => UAPost N w wr bc gx Q (Pk.batchF l cs all).cs (Pk.batchF l cs all).all t (Pk.batchF l cs all).l e w' := by
  obtain ⟨hb, hN1, hN2, hN3, hI, hS, vr, vn, vb, vk, vf, has, tp, fr, vt, hc, hx⟩ := h
  obtain ⟨h0, hs2, hI2, hl⟩ := Pk.batch_ok l hI hS
  exact xapply_ok hb hN1 hN2 hN3 hI2 h0 hs2 (by omega) hc hx hv
theorem timesO_one (l : List Pv.Out) : timesO 1 l = l := by
  unfold timesO
  refine (List.map_congr_left (g := id) (fun o _ => ?_)).trans (List.map_id l)
  obtain ⟨a, b, c⟩ := o
  simp
/-- Rows and Table, as lists that can be read -/
def RowsPost (w : World) (l : List Pv.Out) (e : Ending) (w' : World) : Prop := Below w.heap.size w w' ∧ ∃ x n c, e = .returned (.slice x n c) ∧ RdO w' (.slice x n c) l
theorem xrows_rd {w : World} {gx : Nat} {vb vk vf vt : Value} {has : Bool} {tp fr : Int} {Q : Pv.Qry} {t : List Pv.Chg} (h : XV w gx vb vk vf has tp fr vt Q t) :
    Calls Tryz.prog 10 #[.pointer (some ⟨gx, 0, none⟩)] w fun e w' => RowsPost w (Pv.rowsF Q t) e w' := by
  refine (xrows_any h).mono ?_
  rintro e w' ⟨hb, u, P, rfl, hq, hm⟩
  obtain ⟨x, n, c, rfl⟩ := own_sl hq.row
  refine ⟨hb, x, n, c, rfl, ?_⟩
  rw [← hm]
  exact hq.toP.toO.rd
def TabRd (w : World) (l : List Pv.Chg) (e : Ending) (w' : World) : Prop := Below w.heap.size w w' ∧ ∃ x n c, e = .returned (.slice x n c) ∧ RdC w' (.slice x n c) l
theorem xtable_rd {w : World} {gx : Nat} {vb vk vf vt : Value} {has : Bool} {tp fr : Int} {Q : Pv.Qry} {t : List Pv.Chg} (h : XV w gx vb vk vf has tp fr vt Q t) :
    Calls Tryz.prog 11 #[.pointer (some ⟨gx, 0, none⟩)] w fun e w' => TabRd w t e w' := by
  refine (xtable_any h).mono ?_
  rintro e w' ⟨hb, u, rfl, own⟩
  obtain ⟨x, n, c, rfl⟩ := own_sl own
  exact ⟨hb, x, n, c, rfl, RdC.ofOwn own⟩
theorem rows_small {w : World} {vb vk vf : Value} {has : Bool} {tp fr : Int} {Q : Pv.Qry} (h : QX w vb vk vf has tp fr Q) {t : List Pv.Chg} (ht : Pv.TInv t) : (Pv.rowsF Q t).length ≤ 320000 ∧ ∀ x ∈ Pv.rowsF Q t, x.2.1.length ≤ 1000 ∧ -320000 ≤ x.2.2 ∧ x.2.2 ≤ 320000 := by
  have s2 := outs_small h ht
  have hS := Pv.SumOk.all (d := Q.fs.length) (.inl rfl) (Pv.outsP Q (Pv.linesP Q.ks Q.cs t)) (Pv.SumOk.nil _) (Pv.outsP_ok Q _)
  rw [← Pv.rowsP_eq ht]
  have hfl := h.fl
  unfold Pv.rowsP
  refine ⟨Nat.le_trans (List.length_filter_le _ _) (Nat.le_trans hS.1.len (by omega)), fun x hx => ?_⟩
  have hm := (List.mem_filter.1 hx).1
  have hb := hS.1.bd x hm
  have hv := hS.1.vals x hm
  exact ⟨by omega, by omega, by omega⟩
end Go.Proofs.YtcoofnhdbejnpabGreatDoor

/- Two views and the counts beside each other. -/
namespace Go.Proofs.YtcoofnhdbejnpabGreatDoor
open Go.RowKit
/-- another view, whatever it has -/
def XVx (w : World) (gy : Nat) (Q : Pv.Qry) (t : List Pv.Chg) : Prop := ∃ vb vk vf has tp fr vt, XV w gy vb vk vf has tp fr vt Q t
theorem XVx.below {w w' : World} {gy : Nat} {Q : Pv.Qry} {t : List Pv.Chg} (h : XVx w gy Q t) (hb : Below w.heap.size w w') : XVx w' gy Q t := by
  obtain ⟨vb, vk, vf, has, tp, fr, vt, h⟩ := h
  exact ⟨vb, vk, vf, has, tp, fr, vt, h.below hb⟩
end Go.Proofs.YtcoofnhdbejnpabGreatDoor

/- A view, whatever it has: a batch is given to it, its rows. -/
namespace Go.Proofs.YtcoofnhdbejnpabGreatDoor
open Go.RowKit
/-- a view is given a batch that is not refused -/
def XAx (wr : World) (gx : Nat) (Q : Pv.Qry) (t bt : List Pv.Chg) (e : Ending) (w' : World) : Prop :=
  ∃ x n c, e = .returned (.tuple #[.slice x n c, .int .i64 0, .int .i64 0]) ∧ But (fun k => k = gx) wr w' ∧ XVx w' gx Q (Pv.tableF t bt) ∧ RdO w' (.slice x n c) (Pv.appliedF Q t bt) ∧ Kp wr w'
theorem xapply_x {wr : World} {gx : Nat} {Q : Pv.Qry} {t bt : List Pv.Chg} {v : Value} (h : XVx wr gx Q t) (hv : RdC wr v bt) (h0 : Pv.refusedF t bt = (0, 0)) (hl : bt.length ≤ 50) :
    Calls Tryz.prog 8 #[.pointer (some ⟨gx, 0, none⟩), v] wr fun e w' => XAx wr gx Q t bt e w' := by
  obtain ⟨vb, vk, vf, has, tp, fr, vt, hx⟩ := h
  have h1 : (Pv.refusedF t bt).1 = 0 := by rw [h0]
  refine (xapply_any hx hv (by omega)).mono ?_
  rintro e w' ⟨bu, x, n, c, x2, n2, c2, P, rfl, oq, hm, hblk, hor⟩
  rcases hor with ⟨hq, _⟩ | ⟨_, own⟩
  · exact absurd h1 hq
  · refine ⟨x, n, c, by rw [h0]; rfl, bu, ⟨vb, vk, vf, has, tp, fr, .slice x2 n2 c2, hblk, hx.q.but bu hx.offX (by decide) (by decide) (by decide), RdC.ofOwn own, (hx.inv.next h1).1⟩, ?_, Kp.but bu hx.offX (by decide) (by decide) (by decide)⟩
    rw [← hm]
    exact oq.toP.toO.rd
theorem XVx.rows {w : World} {gx : Nat} {Q : Pv.Qry} {t : List Pv.Chg} (h : XVx w gx Q t) :
    Calls Tryz.prog 10 #[.pointer (some ⟨gx, 0, none⟩)] w fun e w' => RowsPost w (Pv.rowsF Q t) e w' := by
  obtain ⟨vb, vk, vf, has, tp, fr, vt, h⟩ := h
  exact xrows_rd h
end Go.Proofs.YtcoofnhdbejnpabGreatDoor

/- Package paneskeep: one, refused. -/
namespace Go.Proofs.YtcoofnhdbejnpabGreatDoor
open Go.RowKit
/-- a change as a value -/
def cvl (c : Pv.Chg) : Value := .agg #[.int .i64 c.1.1, .int .i64 c.1.2.1, .int .i64 c.1.2.2, .int .i64 c.2]
set_option maxHeartbeats 1000000 in
theorem one_any (p k v n : Int) (w : World) : Calls Tryz.prog 14 #[.int .i64 p, .int .i64 k, .int .i64 v, .int .i64 n] w fun e w' => e = .returned (cvl ((p, k, v), n)) ∧ Below w.heap.size w w' := by
  go_enter Tryz.func14, Tryz.ntmps14
  go_wp2
  have l0 : (w.alloc (.cells #[.int .i64 p, .int .i64 k, .int .i64 v, .int .i64 n] 47)).cell? ⟨w.heap.size, 0, none⟩ = some (.int .i64 p) := cell_of_heap (heap_alloc_new w _) 0
  have l1 : (w.alloc (.cells #[.int .i64 p, .int .i64 k, .int .i64 v, .int .i64 n] 47)).cell? ⟨w.heap.size, 1, none⟩ = some (.int .i64 k) := cell_of_heap (heap_alloc_new w _) 1
  have l2 : (w.alloc (.cells #[.int .i64 p, .int .i64 k, .int .i64 v, .int .i64 n] 47)).cell? ⟨w.heap.size, 2, none⟩ = some (.int .i64 v) := cell_of_heap (heap_alloc_new w _) 2
  have l3 : (w.alloc (.cells #[.int .i64 p, .int .i64 k, .int .i64 v, .int .i64 n] 47)).cell? ⟨w.heap.size, 3, none⟩ = some (.int .i64 n) := cell_of_heap (heap_alloc_new w _) 3
  exact bodyPost_ret (v := .agg #[.int .i64 p, .int .i64 k, .int .i64 v, .int .i64 n]) (by simp [results, Tryz.results14, go_sem, l0, l1, l2, l3]) rfl ⟨rfl, (Below.refl _ _).alloc (Nat.le_refl _) _⟩
/-- a list of changes just laid -/
theorem RdC.new (w : World) (l : List Pv.Chg) (cs : Array Value) (n : Nat) (h : cs.toList = rchgs l) (hn : n = l.length) : RdC (w.alloc (.cells cs 47)) (.slice (some ⟨w.heap.size, 0, none⟩) n n) l := by
  subst hn
  refine .inr ⟨w.heap.size, 0, l.length, cs, (0, 0), rfl, Nat.le_refl _, heap_alloc_new w _, ?_⟩
  intro j u hj
  rw [Nat.zero_add, ← Array.getElem?_toList, h]
  exact hj
def RfPost (w : World) (gx : Nat) (Q : Pv.Qry) (t bt : List Pv.Chg) (E A : Int) (e : Ending) (w' : World) : Prop :=
  e = .returned (.bool (((Pv.refusedF t bt).1 == E) && (((Pv.refusedF t bt).2 : Int) == A))) ∧ But (fun k => k = gx) w w' ∧ XVx w' gx Q t
set_option maxHeartbeats 1000000 in
theorem refused_any {w : World} {gx : Nat} {Q : Pv.Qry} {t bt : List Pv.Chg} {v : Value} (h : XVx w gx Q t) (hv : RdC w v bt) (hl : bt.length ≤ 60) (h0 : (Pv.refusedF t bt).1 ≠ 0) (E A : Int) :
    Calls Tryz.prog 41 #[.pointer (some ⟨gx, 0, none⟩), v, .int .i64 E, .int .i64 A] w fun e w' => RfPost w gx Q t bt E A e w' := by
  obtain ⟨vb, vk, vf, has, tp, fr, vt, hx⟩ := h
  have HX := hide hx
  have HV := hide hv
  have H0 := hide h0
  clear hx hv h0
  go_enter Tryz.func41, Tryz.ntmps41
  go_wp2_with fail
  refine (xapply_any HX.out HV.out (by omega)).mono ?_
  rintro e w' ⟨bu, x, n, c, x2, n2, c2, P, rfl, oq, hm, hblk, hor⟩
  have hx' : XVx w' gx Q t := by
    rcases hor with ⟨_, hq⟩ | ⟨hq, _⟩
    · rw [hq] at hblk
      exact ⟨vb, vk, vf, has, tp, fr, vt, hblk, HX.out.q.but bu HX.out.offX (by decide) (by decide) (by decide), HX.out.rt.but bu HX.out.offX (by decide), HX.out.inv⟩
    · exact absurd hq H0.out
  have hP : P.length = 0 := by
    have : Pv.appliedF Q t bt = [] := by unfold Pv.appliedF; rw [if_neg H0.out]
    rw [this] at hm
    have := congrArg List.length hm
    simpa using this
  obtain rfl : n = 0 := by
    have hrow := oq.row
    rw [hP] at hrow
    rcases own_form hrow with ⟨h1, _⟩ | ⟨g, c', h1⟩
    · cases h1; rfl
    · cases h1; rfl
  have BU := hide bu
  have HX' := hide hx'
  clear bu oq hm hblk hor hx' hP
  generalize hq1 : (Pv.refusedF t bt).1 = r1 at *
  generalize hq2 : ((Pv.refusedF t bt).2 : Int) = r2 at *
  have HQ1 := hide hq1
  have HQ2 := hide hq2
  clear hq1 hq2
  cases q1 : (r1 == E)
  · go_wp2
    go_ret
    exact ⟨by rw [HQ1.out, HQ2.out, q1]; rfl, BU.out, HX'.out⟩
  · cases q2 : (r2 == A)
    · go_wp2
      go_ret
      exact ⟨by rw [HQ1.out, HQ2.out, q1, q2]; rfl, BU.out, HX'.out⟩
    · go_wp2
      go_ret
      exact ⟨by rw [HQ1.out, HQ2.out, q1, q2]; rfl, BU.out, HX'.out⟩
end Go.Proofs.YtcoofnhdbejnpabGreatDoor

