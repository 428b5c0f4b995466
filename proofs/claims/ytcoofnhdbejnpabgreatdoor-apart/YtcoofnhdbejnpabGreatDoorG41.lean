/- Two views and the counts beside each other. -/
import Derived.Test.YtcoofnhdbejnpabGreatDoorG06
import Derived.Test.YtcoofnhdbejnpabGreatDoorG11
import Derived.Test.YtcoofnhdbejnpabGreatDoorG40
namespace Go.Proofs.YtcoofnhdbejnpabGreatDoor
open Go.RowKit
theorem Pk.astPS_full {q : Pk.Ast} {n : Nat} {full : Bool} (h : full = true ∨ full = Pk.fullOf q) : Pk.astPS q n full = Pk.astPS q n true := by
  rcases h with rfl | rfl
  · rfl
  · unfold Pk.astPS Pk.fullOf
    cases hq : q.top with
    | none => rfl
    | some x =>
      obtain ⟨a, b⟩ := x
      by_cases hb : b = 0
      · simp [hb]
      · simp [hb]
theorem XV.butX {w w' : World} {gx gy : Nat} {vb vk vf vt ub uk uf ut : Value} {has has2 : Bool} {tp fr tp2 fr2 : Int} {Q Q2 : Pv.Qry} {t t2 : List Pv.Chg} (h : XV w gy ub uk uf has2 tp2 fr2 ut Q2 t2) (hx : XV w gx vb vk vf has tp fr vt Q t) (hb : But (fun k => k = gx) w w') (hne : gy ≠ gx) : XV w' gy ub uk uf has2 tp2 fr2 ut Q2 t2 :=
  ⟨(hb.block gy (Array.getElem?_eq_some_iff.1 h.blk).1 hne).trans h.blk, h.q.but hb hx.offX (by decide) (by decide) (by decide), h.rt.but hb hx.offX (by decide), h.inv⟩
/-- another view, whatever it has -/
def XVx (w : World) (gy : Nat) (Q : Pv.Qry) (t : List Pv.Chg) : Prop := ∃ vb vk vf has tp fr vt, XV w gy vb vk vf has tp fr vt Q t
theorem XVx.below {w w' : World} {gy : Nat} {Q : Pv.Qry} {t : List Pv.Chg} (h : XVx w gy Q t) (hb : Below w.heap.size w w') : XVx w' gy Q t := by
  obtain ⟨vb, vk, vf, has, tp, fr, vt, h⟩ := h
  exact ⟨vb, vk, vf, has, tp, fr, vt, h.below hb⟩
end Go.Proofs.YtcoofnhdbejnpabGreatDoor

/- A view, whatever it has: a batch is given to it, its rows. -/
namespace Go.Proofs.YtcoofnhdbejnpabGreatDoor
open Go.RowKit
theorem XVx.butx {w w' : World} {gx gy : Nat} {Q Q2 : Pv.Qry} {t t2 : List Pv.Chg} (h : XVx w gy Q2 t2) (hx : XVx w gx Q t) (hb : But (fun k => k = gx) w w') (hne : gy ≠ gx) : XVx w' gy Q2 t2 := by
  obtain ⟨vb, vk, vf, has, tp, fr, vt, h⟩ := h
  obtain ⟨vb2, vk2, vf2, has2, tp2, fr2, vt2, hx⟩ := hx
  exact ⟨vb, vk, vf, has, tp, fr, vt, h.butX hx hb hne⟩
theorem XVx.rows {w : World} {gx : Nat} {Q : Pv.Qry} {t : List Pv.Chg} (h : XVx w gx Q t) :
    Calls Tryz.prog 10 #[.pointer (some ⟨gx, 0, none⟩)] w fun e w' => RowsPost w (Pv.rowsF Q t) e w' := by
  obtain ⟨vb, vk, vf, has, tp, fr, vt, h⟩ := h
  exact xrows_rd h
theorem XVx.small {w : World} {gx : Nat} {Q : Pv.Qry} {t0 : List Pv.Chg} (h : XVx w gx Q t0) : (∀ {t : List Pv.Chg}, Pv.TInv t → (Pv.rowsF Q t).length ≤ 320000 ∧ ∀ x ∈ Pv.rowsF Q t, x.2.1.length ≤ 1000 ∧ -320000 ≤ x.2.2 ∧ x.2.2 ≤ 320000) ∧ ∀ {t b : List Pv.Chg}, Pv.TInv t → (Pv.refusedF t b).1 = 0 → (Pv.appliedF Q t b).length ≤ 320000 ∧ ∀ x ∈ Pv.appliedF Q t b, x.2.1.length ≤ 1000 ∧ -320000 ≤ x.2.2 ∧ x.2.2 ≤ 320000 := by
  obtain ⟨vb, vk, vf, has, tp, fr, vt, h⟩ := h
  exact ⟨fun ht => rows_small h.q ht, fun ht h0 => applied_small h.q ht h0⟩
end Go.Proofs.YtcoofnhdbejnpabGreatDoor

/- Package paneskeep: scribble; what is kept beside it. -/
namespace Go.Proofs.YtcoofnhdbejnpabGreatDoor
open Go.RowKit
/-- whatever is stored: a row that the call has made is still its own -/
theorem own_setG {w : World} {B T sz n : Nat} {v : Value} {xs : List Value} (h : w.ownsRow B T sz v n xs) (g j : Nat) (u : Value) : (w.setCell ⟨g, j, none⟩ u).ownsRow B T sz v n (if v.ownBlock = some g then xs.set j u else xs) := by
  by_cases hg : v.ownBlock = some g
  · rw [if_pos hg]
    have hl := h.1
    refine ⟨by rw [List.length_set]; exact hl, ?_⟩
    rcases h.2 with ⟨h1, _⟩ | ⟨g', cap', cur, h1, h2, h3, h4, h5, h6, h7⟩
    · rw [h1] at hg; cases hg
    · rw [h1] at hg
      cases hg
      refine .inr ⟨g', cap', cur.setIfInBounds j u, h1, h2, ?_, h4, h5, by simpa using h6, ?_⟩
      · simp [World.setCell, Array.getElem?_modify, h3]
      · rw [← h7]
        simp only [Array.toList_setIfInBounds]
        rw [List.take_set]
  · rw [if_neg hg]
    exact own_set_far h (fun k hk e => hg (by rw [hk, e]))
theorem own_free5 {w : World} {B T sz g cap n m : Nat} {xs : List Value} (h : w.ownsRow B T sz (.slice (some ⟨g, 0, none⟩) n cap) m xs) (j : Nat) : w.frozen? ⟨g, j, none⟩ = false := by
  rcases h.2 with ⟨h1, _⟩ | ⟨g', cap', cur, h1, h2, h3, _⟩
  · cases h1
  · cases h1; exact free_of_heap h3 j
/-- a list of out rows that may be written into: the lists of values in it -/
def Scr (w : World) (B : Nat) (v : Value) (ss : List Value) : Prop :=
  ∃ xs, w.ownsRow B 109 5 v ss.length xs ∧ (∀ i (h : i < ss.length), xs[i * 5 + 3]? = some ss[i]) ∧ ∀ s ∈ ss, ∃ m ys, m ≤ 1000 ∧ w.ownsRow B 112 2 s m ys
theorem Scr.ofQ {w : World} {B : Nat} {v : Value} {P : List POut} (h : OwnQ w B v P) (hl : ∀ x ∈ P, x.1.2.1.length ≤ 1000) : Scr w B v (P.map (·.2)) := by
  refine ⟨pouts P, by rw [List.length_map]; exact h.row, fun i hi => ?_, fun s hs => ?_⟩
  · rw [List.length_map] at hi
    rw [pouts_get P i hi 3 (by omega)]
    simp [oc]
  · obtain ⟨x, hx, rfl⟩ := List.mem_map.1 hs
    exact ⟨_, _, hl x hx, h.own x hx⟩
theorem Scr.setO {w : World} {B g cap n : Nat} {ss : List Value} (h : Scr w B (.slice (some ⟨g, 0, none⟩) n cap) ss) (i j : Nat) (hj : j < 5) (hj3 : j ≠ 3) (u : Value) : Scr (w.setCell ⟨g, i * 5 + j, none⟩ u) B (.slice (some ⟨g, 0, none⟩) n cap) ss := by
  obtain ⟨xs, h1, h2, h3⟩ := h
  refine ⟨xs.set (i * 5 + j) u, ?_, fun k hk => ?_, fun s hs => ?_⟩
  · have := own_setG h1 g (i * 5 + j) u
    rw [if_pos (show (Value.slice (some ⟨g, 0, none⟩) n cap).ownBlock = some g from rfl)] at this
    exact this
  · rw [List.getElem?_set_ne (by omega)]
    exact h2 k hk
  · obtain ⟨m, ys, hm, ho⟩ := h3 s hs
    exact ⟨m, _, hm, own_setG ho g (i * 5 + j) u⟩
theorem Scr.setV {w : World} {B gs n cap m : Nat} {v : Value} {ss ys : List Value} (h : Scr w B v ss) (hs : w.ownsRow B 112 2 (.slice (some ⟨gs, 0, none⟩) n cap) m ys) (j : Nat) (u : Value) : Scr (w.setCell ⟨gs, j, none⟩ u) B v ss := by
  obtain ⟨xs, h1, h2, h3⟩ := h
  refine ⟨xs, own_set_far h1 (fun k hk e => ?_), h2, fun s hs' => ?_⟩
  · subst e
    obtain ⟨c1, f1, e1⟩ := own_type h1 hk
    obtain ⟨c2, f2, e2⟩ := own_type hs (k := k) rfl
    rw [e1] at e2
    simp at e2
  · obtain ⟨m, ys, hm, ho⟩ := h3 s hs'
    exact ⟨m, _, hm, own_setG ho gs j u⟩
theorem Scr.at' {w : World} {B g cap n : Nat} {ss : List Value} (h : Scr w B (.slice (some ⟨g, 0, none⟩) n cap) ss) (k : Nat) (hk : k < ss.length) : (∀ j, j < 5 → ∃ u, w.cell? ⟨g, k * 5 + j, none⟩ = some u) ∧ w.cell? ⟨g, k * 5 + 3, none⟩ = some ss[k] ∧ ∀ j, w.frozen? ⟨g, j, none⟩ = false := by
  obtain ⟨xs, h1, h2, _⟩ := h
  have hl : xs.length = ss.length * 5 := h1.1
  refine ⟨fun j hj => ?_, ?_, own_free5 h1⟩
  · have e : xs[k * 5 + j]? = some xs[k * 5 + j] := List.getElem?_eq_getElem (by omega)
    have := RdG.cell (RdG.ofOwn h1) _ _ e
    rw [Nat.zero_add] at this
    exact ⟨_, this⟩
  · have := RdG.cell (RdG.ofOwn h1) _ _ (h2 k hk)
    rw [Nat.zero_add] at this
    exact this
theorem Scr.val {w : World} {B : Nat} {v : Value} {ss : List Value} (h : Scr w B v ss) (k : Nat) (hk : k < ss.length) : ∃ x m c, ss[k] = .slice x m c ∧ m ≤ 1000 := by
  obtain ⟨xs, _, _, h3⟩ := h
  obtain ⟨m, ys, hm, ho⟩ := h3 _ (List.getElem_mem hk)
  obtain ⟨x, c, e⟩ := ownS ho
  exact ⟨x, m, c, e, hm⟩
theorem Scr.own {w : World} {B : Nat} {v : Value} {ss : List Value} (h : Scr w B v ss) (k : Nat) (hk : k < ss.length) {x : Option Addr} {m c : Nat} (e : ss[k] = .slice x m c) : ∃ ys, w.ownsRow B 112 2 (.slice x m c) m ys := by
  obtain ⟨xs, _, _, h3⟩ := h
  obtain ⟨m', ys, hm, ho⟩ := h3 _ (List.getElem_mem hk)
  rw [e] at ho
  obtain ⟨x2, c2, e2⟩ := ownS ho
  cases e2
  exact ⟨ys, ho⟩
/-- blocks of out rows and of values that were made behind B -/
def SB (w : World) (B : Nat) (k : Nat) : Prop := B ≤ k ∧ ∃ cur T fz, w.heap[k]? = some (.cells cur T fz) ∧ (T = 109 ∨ T = 112)
def pS (T : Nat) : Prop := T ≠ 109 ∧ T ≠ 112
theorem SB.off (w : World) (B : Nat) : Off (SB w B) w pS := fun k hk _ => by
  obtain ⟨_, cur, T, fz, e, ht⟩ := hk
  exact ⟨cur, T, fz, e, fun hp => by rcases ht with q | q; exact hp.1 q; exact hp.2 q⟩
def SMem (w wr : World) (B : Nat) (v : Value) (ss : List Value) : Prop := But (SB w B) w wr ∧ Scr wr B v ss
set_option maxRecDepth 100000 in
set_option maxHeartbeats 2000000 in
theorem scribble_any {w : World} {B : Nat} {v : Value} {ss : List Value} (h : Scr w B v ss) (hl : ss.length ≤ 1000000) (mark : Int) (hk1 : 0 ≤ mark) (hk2 : mark ≤ 9000000000000000) :
    Calls Tryz.prog 18 #[v, .int .i64 mark] w fun e w' => e = .returned (.tuple #[]) ∧ But (SB w B) w w' := by
  have HO : Hid (∀ g, v.ownBlock = some g → SB w B g) := fun g hg => by
    obtain ⟨xs, h1, _, _⟩ := h
    obtain ⟨c1, f1, e1⟩ := own_type h1 hg
    exact ⟨(own_at h1 hg).1, c1, _, f1, e1, .inl rfl⟩
  have HS : Hid (∀ s ∈ ss, ∀ g, s.ownBlock = some g → SB w B g) := fun s hs g hg => by
    obtain ⟨xs, _, _, h3⟩ := h
    obtain ⟨m, ys, _, ho⟩ := h3 s hs
    obtain ⟨c1, f1, e1⟩ := own_type ho hg
    exact ⟨(own_at ho hg).1, c1, _, f1, e1, .inr rfl⟩
  obtain ⟨x0, c0, rfl⟩ : ∃ x c, v = .slice x ss.length c := by
    obtain ⟨xs, h1, _, _⟩ := h
    exact ownS h1
  have H0 : Hid (SMem w w B (.slice x0 ss.length c0) ss) := ⟨But.refl _ _, h⟩
  clear h
  go_enter Tryz.func18, Tryz.ntmps18
  go_wp2
  go_loopw [4] (fun i wr => ∃ k : Nat, k ≤ ss.length ∧ i = .int .i64 k ∧ Hid (SMem w wr B (.slice x0 ss.length c0) ss)) (fun i _ => ss.length - (intOf i).toNat)
  case atStart => exact ⟨0, by omega, rfl, H0⟩
  case round =>
    obtain ⟨k, hk, rfl, H1⟩ := hrel
    by_cases hlt : k < ss.length
    · have hlt' : (k : Int) < (ss.length : Int) := by omega
      obtain ⟨g, c1, e1⟩ : ∃ g c, Value.slice x0 ss.length c0 = .slice (some ⟨g, 0, none⟩) ss.length c := by
        obtain ⟨xs, h1, _, _⟩ := H1.out.2
        rcases own_form h1 with ⟨_, h2⟩ | ⟨g, c, h1⟩
        · omega
        · exact ⟨g, c, h1⟩
      cases e1
      have HSG := hide (HO.out g rfl)
      obtain ⟨xv, m, cv, ev, hm⟩ := H1.out.2.val k hlt
      have HEV := hide ev
      clear ev
      obtain ⟨hc, _, hf⟩ := H1.out.2.at' k hlt
      obtain ⟨u4, t4⟩ := hc 4 (by omega)
      have f4 := hf (k * 5 + 4)
      clear hc hf
      go_upto_region 4 with fail
      have X4 : Hid (SMem w (wr.setCell ⟨g, k * 5 + 4, none⟩ (.int .i64 (2000 + mark))) B (.slice (some ⟨g, 0, none⟩) ss.length c0) ss) := ⟨H1.out.1.setIn g _ _ (fun _ => HSG.out), H1.out.2.setO k 4 (by omega) (by omega) _⟩
      generalize wr.setCell ⟨g, k * 5 + 4, none⟩ (.int .i64 (2000 + mark)) = w4 at *
      clear H1 t4 f4 H0
      obtain ⟨hc, _, hf⟩ := X4.out.2.at' k hlt
      obtain ⟨u2, t2⟩ := hc 2 (by omega)
      have f2 := hf (k * 5 + 2)
      clear hc hf
      go_upto_region 5 with fail
      have X5 : Hid (SMem w (w4.setCell ⟨g, k * 5 + 2, none⟩ (.int .i64 (3000 + k))) B (.slice (some ⟨g, 0, none⟩) ss.length c0) ss) := ⟨X4.out.1.setIn g _ _ (fun _ => HSG.out), X4.out.2.setO k 2 (by omega) (by omega) _⟩
      generalize w4.setCell ⟨g, k * 5 + 2, none⟩ (.int .i64 (3000 + k)) = w5 at *
      clear X4 t2 f2
      generalize wr = wa at *
      go_wp2
      go_loopw [5] (fun i wr => ∃ j : Nat, j ≤ m ∧ i = .int .i64 j ∧ Hid (SMem w wr B (.slice (some ⟨g, 0, none⟩) ss.length c0) ss)) (fun i _ => m - (intOf i).toNat)
      case atStart => exact ⟨0, by omega, rfl, X5⟩
      case round =>
        obtain ⟨j, hj, rfl, H2⟩ := hrel
        obtain ⟨_, t3, _⟩ := H2.out.2.at' k hlt
        rw [HEV.out] at t3
        by_cases hjl : j < m
        · have hjl' : (j : Int) < (m : Int) := by omega
          obtain ⟨ys, ho⟩ := H2.out.2.own k hlt HEV.out
          obtain ⟨gs, cs2, e3⟩ : ∃ g c, Value.slice xv m cv = .slice (some ⟨g, 0, none⟩) m c := by
            rcases own_form ho with ⟨_, h2⟩ | ⟨g, c, h1⟩
            · omega
            · exact ⟨g, c, h1⟩
          cases e3
          have hyl : ys.length = m * 2 := ho.1
          have e5 : ys[j * 2 + 1]? = some ys[j * 2 + 1] := List.getElem?_eq_getElem (by omega)
          have t5 := RdG.cell (RdG.ofOwn ho) _ _ e5
          rw [Nat.zero_add] at t5
          have f5 := own_free5 ho (j * 2 + 1)
          have HSG2 := hide (HS.out _ (List.getElem_mem hlt) gs (by rw [HEV.out]; rfl))
          have X6 : Hid (SMem w (wr.setCell ⟨gs, j * 2 + 1, none⟩ (.int .i64 (4000 + mark))) B (.slice (some ⟨g, 0, none⟩) ss.length c0) ss) := ⟨H2.out.1.setIn gs _ _ (fun _ => HSG2.out), H2.out.2.setV ho _ _⟩
          generalize ys[j * 2 + 1] = y5 at *
          clear ho e5 hyl H2 X5
          go_wp2
          go_roundw
          case rel => exact ⟨j + 1, by omega, by go_num, X6⟩
          case measure => simp [intOf]; omega
        · have hjl' : ¬ (j : Int) < (m : Int) := by omega
          clear X5
          go_wp2
          go_roundw
          case rel => exact ⟨k + 1, by omega, by go_num, H2⟩
          case measure => simp [intOf]; omega
    · have hlt' : ¬ (k : Int) < (ss.length : Int) := by omega
      go_wp2
      go_end0
      exact ⟨rfl, H1.out.1⟩
end Go.Proofs.YtcoofnhdbejnpabGreatDoor

/- Three views and two counts beside each other. -/
namespace Go.Proofs.YtcoofnhdbejnpabGreatDoor
open Go.RowKit
theorem XVx.butC {w w' : World} {g bc B : Nat} {vr vn : Value} {cs : List Pv.Chg} {all : Int} {Q : Pv.Qry} {t : List Pv.Chg} (h : XVx w g Q t) (hc : CM w bc B vr vn cs all) (hb : But (CS bc vr vn) w w') : XVx w' g Q t := by
  obtain ⟨vb, vk, vf, has, tp, fr, vt, h⟩ := h
  exact ⟨vb, vk, vf, has, tp, fr, vt, h.butC hc hb⟩
theorem XVx.butO {w w' : World} {g : Nat} {Q : Pv.Qry} {t : List Pv.Chg} (h : XVx w g Q t) {S : Nat → Prop} {p : Nat → Prop} (hb : But S w w') (ho : Off S w p) (h0 : p 91) (h1 : p 195) (h2 : p 206) (h3 : p 203) (h4 : p 47) : XVx w' g Q t := by
  obtain ⟨vb, vk, vf, has, tp, fr, vt, h⟩ := h
  exact ⟨vb, vk, vf, has, tp, fr, vt, (hb.block g (Array.getElem?_eq_some_iff.1 h.blk).1 (ho.ne h.blk h0)).trans h.blk, h.q.but hb ho h1 h2 h3, h.rt.but hb ho h4, h.inv⟩
theorem XVx.off {w : World} {gx : Nat} {Q : Pv.Qry} {t : List Pv.Chg} (h : XVx w gx Q t) : Off (fun k => k = gx) w (fun T => T ≠ 91) := by
  obtain ⟨vb, vk, vf, has, tp, fr, vt, h⟩ := h
  exact h.offX
theorem CM.butO {w w' : World} {bc B : Nat} {vr vn : Value} {cs : List Pv.Chg} {all : Int} (h : CM w bc B vr vn cs all) {S : Nat → Prop} {p : Nat → Prop} (hb : But S w w') (ho : Off S w p) (h0 : p 33) (h1 : p 45) (h2 : p 3) : CM w' bc B vr vn cs all :=
  h.but hb (fun k hk => by
    obtain ⟨_, cur, T, fz, e, ht⟩ := h.kind k hk
    refine ho.ne e ?_
    rcases ht with q | q | q
    · rw [q]; exact h0
    · rw [q]; exact h1
    · rw [q]; exact h2)
theorem OwnQ.butO {w w' : World} {B : Nat} {v : Value} {P : List POut} (h : OwnQ w B v P) {S : Nat → Prop} {p : Nat → Prop} (hb : But S w w') (ho : Off S w p) (h1 : p 109) (h2 : p 112) : OwnQ w' B v P :=
  ⟨own_but h.row hb (fun g hg => by obtain ⟨c1, f1, e1⟩ := own_type h.row hg; exact ho.ne e1 h1), fun x hx => own_but (h.own x hx) hb (fun g hg => by obtain ⟨c1, f1, e1⟩ := own_type (h.own x hx) hg; exact ho.ne e1 h2), h.dis⟩
/-- lists that were handed out are as they were, and still their owner's -/
structure Kq (w w' : World) : Prop where
  kp : Kp w w'
  q : ∀ B v P, OwnQ w B v P → OwnQ w' B v P
theorem Kq.but {w w1 : World} {S : Nat → Prop} {p : Nat → Prop} (hb : But S w w1) (ho : Off S w p) (h1 : p 112) (h2 : p 109) (h3 : p 47) : Kq w w1 := ⟨Kp.but hb ho h1 h2 h3, fun _ _ _ q => q.butO hb ho h2 h1⟩
/-- what stays: where the views and the counts are -/
structure ST (N : Nat) (w : World) (bc bd gv gw gz : Nat) : Prop where
  n : N ≤ w.heap.size
  c : N ≤ bc
  d : N ≤ bd
  v : N ≤ gv
  w' : N ≤ gw
  z : N ≤ gz
  vw : gv ≠ gw
  vz : gv ≠ gz
  wz : gw ≠ gz
structure AP (N : Nat) (w wr : World) (bc bd gv gw gz : Nat) (Q Qz : Pv.Qry) (vr vn vr2 vn2 : Value) (cs : List Pv.Chg) (all : Int) (ds : List Pv.Chg) (alld : Int) (t t2 tz : List Pv.Chg) : Prop where
  st : ST N w bc bd gv gw gz
  b : Below N w wr
  c : CM wr bc N vr vn cs all
  d : CM wr bd N vr2 vn2 ds alld
  dj : ∀ k, CS bc vr vn k → ¬ CS bd vr2 vn2 k
  xv : XVx wr gv Q t
  xw : XVx wr gw Q t2
  xz : XVx wr gz Qz tz
theorem AP.below {N : Nat} {w wr w1 : World} {bc bd gv gw gz : Nat} {Q Qz : Pv.Qry} {vr vn vr2 vn2 : Value} {cs ds t t2 tz : List Pv.Chg} {all alld : Int} (h : AP N w wr bc bd gv gw gz Q Qz vr vn vr2 vn2 cs all ds alld t t2 tz) (hb : Below wr.heap.size wr w1) : AP N w w1 bc bd gv gw gz Q Qz vr vn vr2 vn2 cs all ds alld t t2 tz :=
  ⟨h.st, h.b.trans (hb.mono (Nat.le_trans h.st.n h.b.size)), h.c.below hb, h.d.below hb, h.dj, h.xv.below hb, h.xw.below hb, h.xz.below hb⟩
/-- the caller writes into lists that came out -/
theorem AP.scr {N B : Nat} {w wr w1 : World} {bc bd gv gw gz : Nat} {Q Qz : Pv.Qry} {vr vn vr2 vn2 : Value} {cs ds t t2 tz : List Pv.Chg} {all alld : Int} (h : AP N w wr bc bd gv gw gz Q Qz vr vn vr2 vn2 cs all ds alld t t2 tz) (hb : But (SB wr B) wr w1) (hB : N ≤ B) : AP N w w1 bc bd gv gw gz Q Qz vr vn vr2 vn2 cs all ds alld t t2 tz := by
  have ho := SB.off wr B
  have y1 : pS 33 := by unfold pS; decide
  have y2 : pS 45 := by unfold pS; decide
  have y3 : pS 3 := by unfold pS; decide
  have y4 : pS 91 := by unfold pS; decide
  have y5 : pS 195 := by unfold pS; decide
  have y6 : pS 206 := by unfold pS; decide
  have y7 : pS 203 := by unfold pS; decide
  have y8 : pS 47 := by unfold pS; decide
  exact ⟨h.st, But.near h.b h.st.n hb (fun k hk e => by have := e.1; omega), h.c.butO hb ho y1 y2 y3, h.d.butO hb ho y1 y2 y3, h.dj, h.xv.butO hb ho y4 y5 y6 y7 y8, h.xw.butO hb ho y4 y5 y6 y7 y8, h.xz.butO hb ho y4 y5 y6 y7 y8⟩
theorem dis_old {w : World} {bc bd B : Nat} {vr vn vr' vn' vr2 vn2 : Value} {ds : List Pv.Chg} {alld : Int} (hd : CM w bd B vr2 vn2 ds alld) (dj : ∀ k, CS bc vr vn k → ¬ CS bd vr2 vn2 k) (o1 : Old w.heap.size vr vr') (o2 : Old w.heap.size vn vn') : ∀ k, CS bc vr' vn' k → ¬ CS bd vr2 vn2 k := fun k hk hk2 => by
  have hlt := (hd.kind k hk2).1
  exact dj k (CS.old o1 o2 hlt hk) hk2
def AbPost (N : Nat) (w wr : World) (bc bd gv gw gz : Nat) (Q Qz : Pv.Qry) (vr2 vn2 : Value) (cs : List Pv.Chg) (all : Int) (ds : List Pv.Chg) (alld : Int) (t t2 tz : List Pv.Chg) (l : Pq.Bytes) (e : Ending) (w' : World) : Prop :=
  ∃ x n c vr vn, e = .returned (.slice x n c) ∧ AP N w w' bc bd gv gw gz Q Qz vr vn vr2 vn2 (Pk.batchF l cs all).cs (Pk.batchF l cs all).all ds alld t t2 tz ∧ RdC w' (.slice x n c) (Pk.batchF l cs all).l ∧ Kq wr w'
theorem AP.bc {N : Nat} {w wr : World} {bc bd gv gw gz : Nat} {Q Qz : Pv.Qry} {vr vn vr2 vn2 : Value} {cs ds t t2 tz : List Pv.Chg} {all alld : Int} (h : AP N w wr bc bd gv gw gz Q Qz vr vn vr2 vn2 cs all ds alld t t2 tz) (hI : Pk.CInv cs all) {s : ByteArray} (hs : s.size ≤ maxLen) :
    Calls Tryz.prog 9 #[.pointer (some ⟨bc, 0, none⟩), .string s] wr fun e w' => AbPost N w wr bc bd gv gw gz Q Qz vr2 vn2 cs all ds alld t t2 tz s.data.toList e w' := by
  refine (batch_any h.c hI (Nat.le_trans h.st.n h.b.size) hs).mono ?_
  rintro e w' ⟨bu, x, n, c, vr', vn', rfl, own, cm, o1, o2⟩
  exact ⟨x, n, c, vr', vn', rfl, ⟨h.st, But.near h.b h.st.n bu (h.c.ge h.st.c), cm, h.d.but bu (fun k hk hk2 => h.dj k hk2 hk), dis_old h.d h.dj o1 o2, h.xv.butC h.c bu, h.xw.butC h.c bu, h.xz.butC h.c bu⟩, RdC.ofOwn own, Kq.but bu h.c.off (by unfold pC; decide) (by unfold pC; decide) (by unfold pC; decide)⟩
def AdPost (N : Nat) (w wr : World) (bc bd gv gw gz : Nat) (Q Qz : Pv.Qry) (vr vn : Value) (cs : List Pv.Chg) (all : Int) (ds : List Pv.Chg) (alld : Int) (t t2 tz : List Pv.Chg) (l : Pq.Bytes) (e : Ending) (w' : World) : Prop :=
  ∃ x n c vr2 vn2, e = .returned (.slice x n c) ∧ AP N w w' bc bd gv gw gz Q Qz vr vn vr2 vn2 cs all (Pk.batchF l ds alld).cs (Pk.batchF l ds alld).all t t2 tz ∧ RdC w' (.slice x n c) (Pk.batchF l ds alld).l ∧ Kq wr w'
theorem AP.bd {N : Nat} {w wr : World} {bc bd gv gw gz : Nat} {Q Qz : Pv.Qry} {vr vn vr2 vn2 : Value} {cs ds t t2 tz : List Pv.Chg} {all alld : Int} (h : AP N w wr bc bd gv gw gz Q Qz vr vn vr2 vn2 cs all ds alld t t2 tz) (hI : Pk.CInv ds alld) {s : ByteArray} (hs : s.size ≤ maxLen) :
    Calls Tryz.prog 9 #[.pointer (some ⟨bd, 0, none⟩), .string s] wr fun e w' => AdPost N w wr bc bd gv gw gz Q Qz vr vn cs all ds alld t t2 tz s.data.toList e w' := by
  refine (batch_any h.d hI (Nat.le_trans h.st.n h.b.size) hs).mono ?_
  rintro e w' ⟨bu, x, n, c, vr', vn', rfl, own, cm, o1, o2⟩
  exact ⟨x, n, c, vr', vn', rfl, ⟨h.st, But.near h.b h.st.n bu (h.d.ge h.st.d), h.c.but bu h.dj, cm, fun k hk hk2 => dis_old h.c (fun k h2 h1 => h.dj k h1 h2) o1 o2 k hk2 hk, h.xv.butC h.d bu, h.xw.butC h.d bu, h.xz.butC h.d bu⟩, RdC.ofOwn own, Kq.but bu h.d.off (by unfold pC; decide) (by unfold pC; decide) (by unfold pC; decide)⟩
/-- a view is given a batch that is not refused: what it tells is the caller's -/
def XAq (wr : World) (gx : Nat) (Q : Pv.Qry) (t bt : List Pv.Chg) (e : Ending) (w' : World) : Prop :=
  ∃ x n c P, e = .returned (.tuple #[.slice x n c, .int .i64 0, .int .i64 0]) ∧ But (fun k => k = gx) wr w' ∧ XVx w' gx Q (Pv.tableF t bt) ∧ OwnQ w' wr.heap.size (.slice x n c) P ∧ P.map (·.1) = Pv.appliedF Q t bt
theorem xapply_q {wr : World} {gx : Nat} {Q : Pv.Qry} {t bt : List Pv.Chg} {v : Value} (h : XVx wr gx Q t) (hv : RdC wr v bt) (h0 : Pv.refusedF t bt = (0, 0)) (hl : bt.length ≤ 50) :
    Calls Tryz.prog 8 #[.pointer (some ⟨gx, 0, none⟩), v] wr fun e w' => XAq wr gx Q t bt e w' := by
  obtain ⟨vb, vk, vf, has, tp, fr, vt, hx⟩ := h
  have h1 : (Pv.refusedF t bt).1 = 0 := by rw [h0]
  refine (xapply_any hx hv (by omega)).mono ?_
  rintro e w' ⟨bu, x, n, c, x2, n2, c2, P, rfl, oq, hm, hblk, hor⟩
  rcases hor with ⟨hq, _⟩ | ⟨_, own⟩
  · exact absurd h1 hq
  · exact ⟨x, n, c, P, by rw [h0]; rfl, bu, ⟨vb, vk, vf, has, tp, fr, .slice x2 n2 c2, hblk, hx.q.but bu hx.offX (by decide) (by decide) (by decide), RdC.ofOwn own, (hx.inv.next h1).1⟩, oq, hm⟩
theorem CM.butX {w w' : World} {bc B gx : Nat} {vr vn : Value} {cs : List Pv.Chg} {all : Int} {Q : Pv.Qry} {t : List Pv.Chg} (h : CM w bc B vr vn cs all) (hx : XVx w gx Q t) (hb : But (fun k => k = gx) w w') : CM w' bc B vr vn cs all := h.butO hb hx.off (by decide) (by decide) (by decide)
def AvPost (N : Nat) (w wr : World) (bc bd gv gw gz : Nat) (Q Qz : Pv.Qry) (vr vn vr2 vn2 : Value) (cs : List Pv.Chg) (all : Int) (ds : List Pv.Chg) (alld : Int) (t t2 tz bt : List Pv.Chg) (e : Ending) (w' : World) : Prop :=
  ∃ x n c P, e = .returned (.tuple #[.slice x n c, .int .i64 0, .int .i64 0]) ∧ AP N w w' bc bd gv gw gz Q Qz vr vn vr2 vn2 cs all ds alld (Pv.tableF t bt) t2 tz ∧ OwnQ w' wr.heap.size (.slice x n c) P ∧ P.map (·.1) = Pv.appliedF Q t bt ∧ Kq wr w'
theorem AP.av {N : Nat} {w wr : World} {bc bd gv gw gz : Nat} {Q Qz : Pv.Qry} {vr vn vr2 vn2 : Value} {cs ds t t2 tz bt : List Pv.Chg} {all alld : Int} (h : AP N w wr bc bd gv gw gz Q Qz vr vn vr2 vn2 cs all ds alld t t2 tz) {v : Value} (hv : RdC wr v bt) (h0 : Pv.refusedF t bt = (0, 0)) (hl : bt.length ≤ 50) :
    Calls Tryz.prog 8 #[.pointer (some ⟨gv, 0, none⟩), v] wr fun e w' => AvPost N w wr bc bd gv gw gz Q Qz vr vn vr2 vn2 cs all ds alld t t2 tz bt e w' := by
  refine (xapply_q h.xv hv h0 hl).mono ?_
  rintro e w' ⟨x, n, c, P, rfl, bu, xv, oq, hm⟩
  exact ⟨x, n, c, P, rfl, ⟨h.st, But.near h.b h.st.n bu (fun k hk e => by have := h.st.v; omega), h.c.butX h.xv bu, h.d.butX h.xv bu, h.dj, xv, h.xw.butx h.xv bu (Ne.symm h.st.vw), h.xz.butx h.xv bu (Ne.symm h.st.vz)⟩, oq, hm, Kq.but bu h.xv.off (by decide) (by decide) (by decide)⟩
def AwPost (N : Nat) (w wr : World) (bc bd gv gw gz : Nat) (Q Qz : Pv.Qry) (vr vn vr2 vn2 : Value) (cs : List Pv.Chg) (all : Int) (ds : List Pv.Chg) (alld : Int) (t t2 tz bt : List Pv.Chg) (e : Ending) (w' : World) : Prop :=
  ∃ x n c P, e = .returned (.tuple #[.slice x n c, .int .i64 0, .int .i64 0]) ∧ AP N w w' bc bd gv gw gz Q Qz vr vn vr2 vn2 cs all ds alld t (Pv.tableF t2 bt) tz ∧ OwnQ w' wr.heap.size (.slice x n c) P ∧ P.map (·.1) = Pv.appliedF Q t2 bt ∧ Kq wr w'
theorem AP.aw {N : Nat} {w wr : World} {bc bd gv gw gz : Nat} {Q Qz : Pv.Qry} {vr vn vr2 vn2 : Value} {cs ds t t2 tz bt : List Pv.Chg} {all alld : Int} (h : AP N w wr bc bd gv gw gz Q Qz vr vn vr2 vn2 cs all ds alld t t2 tz) {v : Value} (hv : RdC wr v bt) (h0 : Pv.refusedF t2 bt = (0, 0)) (hl : bt.length ≤ 50) :
    Calls Tryz.prog 8 #[.pointer (some ⟨gw, 0, none⟩), v] wr fun e w' => AwPost N w wr bc bd gv gw gz Q Qz vr vn vr2 vn2 cs all ds alld t t2 tz bt e w' := by
  refine (xapply_q h.xw hv h0 hl).mono ?_
  rintro e w' ⟨x, n, c, P, rfl, bu, xv, oq, hm⟩
  exact ⟨x, n, c, P, rfl, ⟨h.st, But.near h.b h.st.n bu (fun k hk e => by have := h.st.w'; omega), h.c.butX h.xw bu, h.d.butX h.xw bu, h.dj, h.xv.butx h.xw bu h.st.vw, xv, h.xz.butx h.xw bu (Ne.symm h.st.wz)⟩, oq, hm, Kq.but bu h.xw.off (by decide) (by decide) (by decide)⟩
def AzPost (N : Nat) (w wr : World) (bc bd gv gw gz : Nat) (Q Qz : Pv.Qry) (vr vn vr2 vn2 : Value) (cs : List Pv.Chg) (all : Int) (ds : List Pv.Chg) (alld : Int) (t t2 tz bt : List Pv.Chg) (e : Ending) (w' : World) : Prop :=
  ∃ x n c, e = .returned (.tuple #[.slice x n c, .int .i64 0, .int .i64 0]) ∧ AP N w w' bc bd gv gw gz Q Qz vr vn vr2 vn2 cs all ds alld t t2 (Pv.tableF tz bt) ∧ Kq wr w'
theorem AP.az {N : Nat} {w wr : World} {bc bd gv gw gz : Nat} {Q Qz : Pv.Qry} {vr vn vr2 vn2 : Value} {cs ds t t2 tz bt : List Pv.Chg} {all alld : Int} (h : AP N w wr bc bd gv gw gz Q Qz vr vn vr2 vn2 cs all ds alld t t2 tz) {v : Value} (hv : RdC wr v bt) (h0 : Pv.refusedF tz bt = (0, 0)) (hl : bt.length ≤ 50) :
    Calls Tryz.prog 8 #[.pointer (some ⟨gz, 0, none⟩), v] wr fun e w' => AzPost N w wr bc bd gv gw gz Q Qz vr vn vr2 vn2 cs all ds alld t t2 tz bt e w' := by
  refine (xapply_q h.xz hv h0 hl).mono ?_
  rintro e w' ⟨x, n, c, P, rfl, bu, xv, oq, hm⟩
  exact ⟨x, n, c, rfl, ⟨h.st, But.near h.b h.st.n bu (fun k hk e => by have := h.st.z; omega), h.c.butX h.xz bu, h.d.butX h.xz bu, h.dj, h.xv.butx h.xz bu h.st.vz, h.xw.butx h.xz bu h.st.wz, xv⟩, Kq.but bu h.xz.off (by decide) (by decide) (by decide)⟩
/-- Rows, that may be written into -/
theorem XVx.rowsQ {w : World} {gx : Nat} {Q : Pv.Qry} {t : List Pv.Chg} (h : XVx w gx Q t) :
    Calls Tryz.prog 10 #[.pointer (some ⟨gx, 0, none⟩)] w fun e w' => ListPost w (Pv.rowsF Q t) e w' := by
  obtain ⟨vb, vk, vf, has, tp, fr, vt, h⟩ := h
  exact xrows_any h
def TabOwn (w : World) (l : List Pv.Chg) (e : Ending) (w' : World) : Prop := Below w.heap.size w w' ∧ ∃ x c, e = .returned (.slice x l.length c) ∧ w'.ownsRow w.heap.size 47 4 (.slice x l.length c) l.length (rchgs l)
theorem XVx.tabOwn {w : World} {gx : Nat} {Q : Pv.Qry} {t : List Pv.Chg} (h : XVx w gx Q t) :
    Calls Tryz.prog 11 #[.pointer (some ⟨gx, 0, none⟩)] w fun e w' => TabOwn w t e w' := by
  obtain ⟨vb, vk, vf, has, tp, fr, vt, h⟩ := h
  refine (xtable_any h).mono ?_
  rintro e w' ⟨hb, u, rfl, own⟩
  obtain ⟨x, c, rfl⟩ := ownS own
  exact ⟨hb, x, c, rfl, own⟩
theorem XVx.tabRd {w : World} {gx : Nat} {Q : Pv.Qry} {t : List Pv.Chg} (h : XVx w gx Q t) :
    Calls Tryz.prog 11 #[.pointer (some ⟨gx, 0, none⟩)] w fun e w' => TabRd w t e w' := by
  obtain ⟨vb, vk, vf, has, tp, fr, vt, h⟩ := h
  exact xtable_rd h
theorem XVx.tinv {w : World} {gx : Nat} {Q : Pv.Qry} {t : List Pv.Chg} (h : XVx w gx Q t) : Pv.TInv t := by
  obtain ⟨vb, vk, vf, has, tp, fr, vt, h⟩ := h
  exact h.inv
end Go.Proofs.YtcoofnhdbejnpabGreatDoor

