/- A view and the counts beside each other: a batch made, a batch applied. -/
import Derived.Test.YtcoofnhdbejnpaaGreatDoorG46
namespace Go.Proofs.YtcoofnhdbejnpaaGreatDoor
open Go.RowKit
/-- the blocks that turn are of none of these types -/
def Off (S : Nat → Prop) (w : World) (p : Nat → Prop) : Prop := ∀ k, S k → k < w.heap.size → ∃ cur T fz, w.heap[k]? = some (.cells cur T fz) ∧ ¬ p T
theorem Off.ne {S : Nat → Prop} {w : World} {p : Nat → Prop} (h : Off S w p) {k T : Nat} {cur : Array Value} {fz : Nat × Nat} (hk : w.heap[k]? = some (.cells cur T fz)) (hT : p T) : ¬ S k := fun hs => by
  obtain ⟨c, T', f, e, hn⟩ := h k hs (Array.getElem?_eq_some_iff.1 hk).1
  rw [hk] at e
  cases e
  exact hn hT
theorem RdG.but {T sz : Nat} {w w' : World} {v : Value} {n : Nat} {cs : List Value} (h : RdG T sz w v n cs) {S : Nat → Prop} {p : Nat → Prop} (hb : But S w w') (ho : Off S w p) (hT : p T) : RdG T sz w' v n cs := by
  refine ⟨h.1, ?_⟩
  rcases h.2 with h | ⟨g, off, cap, cur, fz, h1, h2, h3, h4⟩
  · exact .inl h
  · exact .inr ⟨g, off, cap, cur, fz, h1, h2, (hb.block g (Array.getElem?_eq_some_iff.1 h3).1 (ho.ne h3 hT)).trans h3, h4⟩
theorem RdC.but {w w' : World} {v : Value} {l : List Pv.Chg} (h : RdC w v l) {S : Nat → Prop} {p : Nat → Prop} (hb : But S w w') (ho : Off S w p) (hT : p 50) : RdC w' v l := by
  rcases h with h | ⟨g, off, cap, cur, fz, h1, h2, h3, h4⟩
  · exact .inl h
  · exact .inr ⟨g, off, cap, cur, fz, h1, h2, (hb.block g (Array.getElem?_eq_some_iff.1 h3).1 (ho.ne h3 hT)).trans h3, h4⟩
theorem RdO.but {w w' : World} {v : Value} {l : List Pv.Out} (h : RdO w v l) {S : Nat → Prop} {p : Nat → Prop} (hb : But S w w') (ho : Off S w p) (h1 : p 52) (h2 : p 55) : RdO w' v l := by
  obtain ⟨vs, hv, hr⟩ := h
  refine ⟨vs, ⟨hv.1, fun j hj hj2 => ?_⟩, RdG.but hr hb ho h2⟩
  exact RdG.but (hv.2 j hj hj2) hb ho h1
theorem QX.but {w w' : World} {vb vk vf : Value} {has : Bool} {tp fr : Int} {Q : Pv.Qry} (h : QX w vb vk vf has tp fr Q) {S : Nat → Prop} {p : Nat → Prop} (hb : But S w w') (ho : Off S w p) (h1 : p 215) (h2 : p 253) (h3 : p 223) : QX w' vb vk vf has tp fr Q :=
  ⟨RdG.but h.rb hb ho h1, RdG.but h.rk hb ho h2, RdG.but h.rf hb ho h3, h.bl, h.bc, h.kl, h.kc, h.k0, h.fl, h.fo, h.t0, h.t1, h.f0, h.f1, h.fr', h.tt, h.tf⟩
/-- lists that were handed out are as they were -/
structure Kp (w w' : World) : Prop where
  o : ∀ v l, RdO w v l → RdO w' v l
  c : ∀ v l, RdC w v l → RdC w' v l
theorem Kp.trans {w w1 w2 : World} (h : Kp w w1) (k : Kp w1 w2) : Kp w w2 := ⟨fun v l q => k.o v l (h.o v l q), fun v l q => k.c v l (h.c v l q)⟩
theorem Kp.below {w w1 : World} (hb : Below w.heap.size w w1) : Kp w w1 := ⟨fun _ _ q => q.below hb, fun _ _ q => q.below hb⟩
theorem Kp.but {w w1 : World} {S : Nat → Prop} {p : Nat → Prop} (hb : But S w w1) (ho : Off S w p) (h1 : p 52) (h2 : p 55) (h3 : p 50) : Kp w w1 := ⟨fun _ _ q => q.but hb ho h1 h2, fun _ _ q => q.but hb ho h3⟩
/-- the types of the counts' blocks -/
def pC (T : Nat) : Prop := T ≠ 66 ∧ T ≠ 48 ∧ T ≠ 3
theorem CM.off {w : World} {bc B : Nat} {vr vn : Value} {cs : List Pv.Chg} {all : Int} (h : CM w bc B vr vn cs all) : Off (CS bc vr vn) w pC := fun k hk _ => by
  obtain ⟨_, cur, T, fz, e, ht⟩ := h.kind k hk
  refine ⟨cur, T, fz, e, fun hp => ?_⟩
  rcases ht with q | q | q
  · exact hp.1 q
  · exact hp.2.1 q
  · exact hp.2.2 q
theorem XV.butC {w w' : World} {bc B gx : Nat} {vr vn vb vk vf vt : Value} {cs : List Pv.Chg} {all : Int} {has : Bool} {tp fr : Int} {Q : Pv.Qry} {t : List Pv.Chg} (h : XV w gx vb vk vf has tp fr vt Q t) (hc : CM w bc B vr vn cs all) (hb : But (CS bc vr vn) w w') : XV w' gx vb vk vf has tp fr vt Q t :=
  ⟨(hb.block gx (Array.getElem?_eq_some_iff.1 h.blk).1 (hc.off.ne h.blk (by unfold pC; decide))).trans h.blk, h.q.but hb hc.off (by unfold pC; decide) (by unfold pC; decide) (by unfold pC; decide), h.rt.but hb hc.off (by unfold pC; decide), h.inv⟩
theorem XV.offX {w : World} {gx : Nat} {vb vk vf vt : Value} {has : Bool} {tp fr : Int} {Q : Pv.Qry} {t : List Pv.Chg} (h : XV w gx vb vk vf has tp fr vt Q t) : Off (fun k => k = gx) w (fun T => T ≠ 114) := fun k hk _ => by
  subst hk
  exact ⟨_, _, _, h.blk, fun hn => hn rfl⟩
/-- a view with the table t, and the counts that say the same -/
def UM (N : Nat) (w wr : World) (bc gx : Nat) (Q : Pv.Qry) (cs : List Pv.Chg) (all : Int) (t : List Pv.Chg) : Prop :=
  Below N w wr ∧ N ≤ bc ∧ N ≤ gx ∧ N ≤ w.heap.size ∧ Pk.CInv cs all ∧ Pk.Same t cs ∧ ∃ vr vn vb vk vf has tp fr vt, CM wr bc N vr vn cs all ∧ XV wr gx vb vk vf has tp fr vt Q t
/-- behind a batch: the counts are ahead -/
def UB (N : Nat) (w wr : World) (bc gx : Nat) (Q : Pv.Qry) (cs : List Pv.Chg) (all : Int) (t : List Pv.Chg) (l : Pq.Bytes) : Prop :=
  Below N w wr ∧ N ≤ bc ∧ N ≤ gx ∧ N ≤ w.heap.size ∧ Pk.CInv cs all ∧ Pk.Same t cs ∧ ∃ vr vn vb vk vf has tp fr vt, CM wr bc N vr vn (Pk.batchF l cs all).cs (Pk.batchF l cs all).all ∧ XV wr gx vb vk vf has tp fr vt Q t
theorem CM.ge {w : World} {bc N : Nat} {vr vn : Value} {cs : List Pv.Chg} {all : Int} (h : CM w bc N vr vn cs all) (hN : N ≤ bc) : ∀ k, k < N → ¬ CS bc vr vn k := fun k hk hc => by
  rcases hc with q | q | q
  · omega
  · have := (own_at h.rr q).1; omega
  · have := (own_at h.rn q).1; omega
theorem But.near {S : Nat → Prop} {N : Nat} {w w1 w2 : World} (h : Below N w w1) (hN : N ≤ w.heap.size) (hb : But S w1 w2) (hS : ∀ k, k < N → ¬ S k) : Below N w w2 := h.trans (hb.below hS (Nat.le_trans hN h.size))
def UBPost (N : Nat) (w wr : World) (bc gx : Nat) (Q : Pv.Qry) (cs : List Pv.Chg) (all : Int) (t : List Pv.Chg) (l : Pq.Bytes) (e : Ending) (w' : World) : Prop :=
  ∃ x n c, e = .returned (.slice x n c) ∧ UB N w w' bc gx Q cs all t l ∧ RdC w' (.slice x n c) (Pk.batchF l cs all).l ∧ Kp wr w'
theorem UM.batch {N : Nat} {w wr : World} {bc gx : Nat} {Q : Pv.Qry} {cs : List Pv.Chg} {all : Int} {t : List Pv.Chg} (h : UM N w wr bc gx Q cs all t) {s : ByteArray} (hs : s.size ≤ maxLen) :
    Calls Tryz.prog 24 #[.pointer (some ⟨bc, 0, none⟩), .string s] wr fun e w' => UBPost N w wr bc gx Q cs all t s.data.toList e w' := by
  obtain ⟨hb, hN1, hN2, hN3, hI, hS, vr, vn, vb, vk, vf, has, tp, fr, vt, hc, hx⟩ := h
  refine (batch_any hc hI (Nat.le_trans hN3 hb.size) hs).mono ?_
  rintro e w' ⟨bu, x, n, c, vr', vn', rfl, own, cm, o1, o2⟩
  exact ⟨x, n, c, rfl, ⟨But.near hb hN3 bu (hc.ge hN1), hN1, hN2, hN3, hI, hS, vr', vn', vb, vk, vf, has, tp, fr, vt, cm, hx.butC hc bu⟩, RdC.ofOwn own, Kp.but bu hc.off (by unfold pC; decide) (by unfold pC; decide) (by unfold pC; decide)⟩
def UAPost (N : Nat) (w wr : World) (bc gx : Nat) (Q : Pv.Qry) (cs : List Pv.Chg) (all : Int) (t bt : List Pv.Chg) (e : Ending) (w' : World) : Prop :=
  ∃ x n c, e = .returned (.tuple #[.slice x n c, .int .i64 0, .int .i64 0]) ∧ UM N w w' bc gx Q cs all (Pv.tableF t bt) ∧ RdO w' (.slice x n c) (Pv.appliedF Q t bt) ∧ Kp wr w'
/-- a batch that is not refused, with counts that say what comes of it -/
theorem xapply_ok {N : Nat} {w wr : World} {bc gx : Nat} {Q : Pv.Qry} {cs : List Pv.Chg} {all : Int} {t bt : List Pv.Chg} {vbt vr vn vb vk vf vt : Value} {has : Bool} {tp fr : Int} (hb : Below N w wr) (hN1 : N ≤ bc) (hN2 : N ≤ gx) (hN3 : N ≤ w.heap.size) (hI : Pk.CInv cs all) (h0 : Pv.refusedF t bt = (0, 0)) (hS : Pk.Same (Pv.tableF t bt) cs) (hl : bt.length ≤ 50) (hc : CM wr bc N vr vn cs all) (hx : XV wr gx vb vk vf has tp fr vt Q t) (hbt : RdC wr vbt bt) :
    Calls Tryz.prog 18 #[.pointer (some ⟨gx, 0, none⟩), vbt] wr fun e w' => UAPost N w wr bc gx Q cs all t bt e w' := by
  have h1 : (Pv.refusedF t bt).1 = 0 := by rw [h0]
  refine (xapply_any hx hbt (by omega)).mono ?_
  rintro e w' ⟨bu, x, n, c, x2, n2, c2, P, rfl, oq, hm, hblk, hor⟩
  have hne : ¬ CS bc vr vn gx := hc.off.ne hx.blk (by unfold pC; decide)
  rcases hor with ⟨hq, _⟩ | ⟨_, own⟩
  · exact absurd h1 hq
  · refine ⟨x, n, c, by rw [h0]; rfl, ⟨But.near hb hN3 bu (fun k hk e => by omega), hN1, hN2, hN3, hI, hS, vr, vn, vb, vk, vf, has, tp, fr, .slice x2 n2 c2, hc.but bu (fun k hk e => hne (e ▸ hk)), ⟨hblk, hx.q.but bu hx.offX (by decide) (by decide) (by decide), RdC.ofOwn own, (hx.inv.next h1).1⟩⟩, ?_, Kp.but bu hx.offX (by decide) (by decide) (by decide)⟩
    rw [← hm]
    exact oq.toP.toO.rd
theorem UB.apply {N : Nat} {w wr : World} {bc gx : Nat} {Q : Pv.Qry} {cs : List Pv.Chg} {all : Int} {t : List Pv.Chg} {l : Pq.Bytes} (h : UB N w wr bc gx Q cs all t l) {v : Value} (hv : RdC wr v (Pk.batchF l cs all).l) :
    Calls Tryz.prog 18 #[.pointer (some ⟨gx, 0, none⟩), v] wr fun e w' => UAPost N w wr bc gx Q (Pk.batchF l cs all).cs (Pk.batchF l cs all).all t (Pk.batchF l cs all).l e w' := by
  obtain ⟨hb, hN1, hN2, hN3, hI, hS, vr, vn, vb, vk, vf, has, tp, fr, vt, hc, hx⟩ := h
  obtain ⟨h0, hs2, hI2, hl⟩ := Pk.batch_ok l hI hS
  exact xapply_ok hb hN1 hN2 hN3 hI2 h0 hs2 (by omega) hc hx hv
theorem UM.below {N : Nat} {w wr w1 : World} {bc gx : Nat} {Q : Pv.Qry} {cs : List Pv.Chg} {all : Int} {t : List Pv.Chg} (h : UM N w wr bc gx Q cs all t) (hb1 : Below wr.heap.size wr w1) : UM N w w1 bc gx Q cs all t := by
  obtain ⟨hb, hN1, hN2, hN3, hI, hS, vr, vn, vb, vk, vf, has, tp, fr, vt, hc, hx⟩ := h
  exact ⟨hb.trans (hb1.mono (Nat.le_trans hN3 hb.size)), hN1, hN2, hN3, hI, hS, vr, vn, vb, vk, vf, has, tp, fr, vt, hc.below hb1, hx.below hb1⟩
/-- a batch that is not refused -/
def XAPost (N : Nat) (w wr : World) (gx : Nat) (vb vk vf : Value) (has : Bool) (tp fr : Int) (Q : Pv.Qry) (t bt : List Pv.Chg) (e : Ending) (w' : World) : Prop :=
  ∃ x n c vt', e = .returned (.tuple #[.slice x n c, .int .i64 0, .int .i64 0]) ∧ Below N w w' ∧ XV w' gx vb vk vf has tp fr vt' Q (Pv.tableF t bt) ∧ RdO w' (.slice x n c) (Pv.appliedF Q t bt) ∧ Kp wr w'
theorem xapply_plain {N : Nat} {w wr : World} {gx : Nat} {Q : Pv.Qry} {t bt : List Pv.Chg} {vbt vb vk vf vt : Value} {has : Bool} {tp fr : Int} (hb : Below N w wr) (hN2 : N ≤ gx) (hN3 : N ≤ w.heap.size) (h0 : Pv.refusedF t bt = (0, 0)) (hl : bt.length ≤ 50) (hx : XV wr gx vb vk vf has tp fr vt Q t) (hbt : RdC wr vbt bt) :
    Calls Tryz.prog 18 #[.pointer (some ⟨gx, 0, none⟩), vbt] wr fun e w' => XAPost N w wr gx vb vk vf has tp fr Q t bt e w' := by
  have h1 : (Pv.refusedF t bt).1 = 0 := by rw [h0]
  refine (xapply_any hx hbt (by omega)).mono ?_
  rintro e w' ⟨bu, x, n, c, x2, n2, c2, P, rfl, oq, hm, hblk, hor⟩
  rcases hor with ⟨hq, _⟩ | ⟨_, own⟩
  · exact absurd h1 hq
  · refine ⟨x, n, c, .slice x2 n2 c2, by rw [h0]; rfl, But.near hb hN3 bu (fun k hk e => by omega), ⟨hblk, hx.q.but bu hx.offX (by decide) (by decide) (by decide), RdC.ofOwn own, (hx.inv.next h1).1⟩, ?_, Kp.but bu hx.offX (by decide) (by decide) (by decide)⟩
    rw [← hm]
    exact oq.toP.toO.rd
theorem timesO_one (l : List Pv.Out) : timesO 1 l = l := by
  unfold timesO
  refine (List.map_congr_left (g := id) (fun o _ => ?_)).trans (List.map_id l)
  obtain ⟨a, b, c⟩ := o
  simp
theorem timesO_neg (l : List Pv.Out) : timesO (-1) l = Pk.turnO l := by
  unfold timesO Pk.turnO
  refine List.map_congr_left (fun o _ => ?_)
  obtain ⟨a, b, c⟩ := o
  simp
/-- Rows and Table, as lists that can be read -/
def RowsPost (w : World) (l : List Pv.Out) (e : Ending) (w' : World) : Prop := Below w.heap.size w w' ∧ ∃ x n c, e = .returned (.slice x n c) ∧ RdO w' (.slice x n c) l
theorem xrows_rd {w : World} {gx : Nat} {vb vk vf vt : Value} {has : Bool} {tp fr : Int} {Q : Pv.Qry} {t : List Pv.Chg} (h : XV w gx vb vk vf has tp fr vt Q t) :
    Calls Tryz.prog 19 #[.pointer (some ⟨gx, 0, none⟩)] w fun e w' => RowsPost w (Pv.rowsF Q t) e w' := by
  refine (xrows_any h).mono ?_
  rintro e w' ⟨hb, u, P, rfl, hq, hm⟩
  obtain ⟨x, n, c, rfl⟩ := own_sl hq.row
  refine ⟨hb, x, n, c, rfl, ?_⟩
  rw [← hm]
  exact hq.toP.toO.rd
def TabRd (w : World) (l : List Pv.Chg) (e : Ending) (w' : World) : Prop := Below w.heap.size w w' ∧ ∃ x n c, e = .returned (.slice x n c) ∧ RdC w' (.slice x n c) l
theorem xtable_rd {w : World} {gx : Nat} {vb vk vf vt : Value} {has : Bool} {tp fr : Int} {Q : Pv.Qry} {t : List Pv.Chg} (h : XV w gx vb vk vf has tp fr vt Q t) :
    Calls Tryz.prog 29 #[.pointer (some ⟨gx, 0, none⟩)] w fun e w' => TabRd w t e w' := by
  refine (xtable_any h).mono ?_
  rintro e w' ⟨hb, u, rfl, own⟩
  obtain ⟨x, n, c, rfl⟩ := own_sl own
  exact ⟨hb, x, n, c, rfl, RdC.ofOwn own⟩
theorem applied_small {w : World} {vb vk vf : Value} {has : Bool} {tp fr : Int} {Q : Pv.Qry} (h : QX w vb vk vf has tp fr Q) {t b : List Pv.Chg} (ht : Pv.TInv t) (h0 : (Pv.refusedF t b).1 = 0) : (Pv.appliedF Q t b).length ≤ 320000 ∧ ∀ x ∈ Pv.appliedF Q t b, x.2.1.length ≤ 1000 ∧ -320000 ≤ x.2.2 ∧ x.2.2 ≤ 320000 := by
  have s1 := outs_small h (ht.next h0).1
  have s2 := outs_small h ht
  have hS := Pv.SumOk.all (d := Q.fs.length) (.inl rfl) (Pv.outsP Q (Pv.linesP Q.ks Q.cs (Pv.tableF t b))) (Pv.SumOk.nil _) (Pv.outsP_ok Q _)
  have hS2 := Pv.SumOk.all (d := Q.fs.length) (.inr rfl) (Pv.outsP Q (Pv.linesP Q.ks Q.cs t)) hS.1 (Pv.outsP_ok Q _)
  rw [← Pv.toldP_eq ht h0]
  have hfl := h.fl
  unfold Pv.toldP
  refine ⟨Nat.le_trans (List.length_filter_le _ _) (Nat.le_trans hS2.1.len (by omega)), fun x hx => ?_⟩
  have hm := (List.mem_filter.1 hx).1
  have hb := hS2.1.bd x hm
  have hv := hS2.1.vals x hm
  exact ⟨by omega, by omega, by omega⟩
theorem rows_small {w : World} {vb vk vf : Value} {has : Bool} {tp fr : Int} {Q : Pv.Qry} (h : QX w vb vk vf has tp fr Q) {t : List Pv.Chg} (ht : Pv.TInv t) : (Pv.rowsF Q t).length ≤ 320000 ∧ ∀ x ∈ Pv.rowsF Q t, x.2.1.length ≤ 1000 ∧ -320000 ≤ x.2.2 ∧ x.2.2 ≤ 320000 := by
  have s2 := outs_small h ht
  have hS := Pv.SumOk.all (d := Q.fs.length) (.inl rfl) (Pv.outsP Q (Pv.linesP Q.ks Q.cs t)) (Pv.SumOk.nil _) (Pv.outsP_ok Q _)
  rw [← Pv.rowsP_eq ht]
  have hfl := h.fl
  unfold Pv.rowsP
  refine ⟨Nat.le_trans (List.length_filter_le _ _) (Nat.le_trans hS.1.len (by omega)), fun x hx => ?_⟩
  have hm := (List.mem_filter.1 hx).1
  have hb := hS.1.bd x hm
  have hv := hS.1.vals x hm
  exact ⟨by omega, by omega, by omega⟩
end Go.Proofs.YtcoofnhdbejnpaaGreatDoor

