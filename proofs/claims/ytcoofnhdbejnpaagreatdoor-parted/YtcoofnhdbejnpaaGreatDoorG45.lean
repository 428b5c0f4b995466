/- Plain mathematics: a plain form with by p ahead of it. -/
import Derived.Test.YtcoofnhdbejnpaaGreatDoorG39
import Derived.Test.YtcoofnhdbejnpaaGreatDoorG44
import Derived.Test.YtcoofnhdbejnpaaGreatDoorG26
namespace Go.Proofs.YtcoofnhdbejnpaaGreatDoor
namespace Pk
open Pq (Bytes Tok PS)
theorem plainOf_left (a : Bytes) : ∀ (ks : List Kd) (p : Bytes), p ≠ [] → plainOf (a ++ p) ks = a ++ plainOf p ks
  | [], _, _ => rfl
  | k :: ks, p, hp => by
    have e1 : (a ++ p).isEmpty = false := by cases p with | nil => exact absurd rfl hp | cons x p => simp
    have e2 : p.isEmpty = false := by cases p with | nil => exact absurd rfl hp | cons x p => rfl
    rw [plainOf, plainOf, e1, e2]
    have := plainOf_left a ks (p ++ k.psep false ++ k.ptext) (by simp [hp])
    rw [← this]
    simp [List.append_assoc]
/-- with by p -/
def astP (q : Ast) : Ast := ⟨[0], q.keys, q.funcs, q.top⟩
theorem astP_plain {q : Ast} (h : q.by' = []) (full : Bool) : plainOf [] (kQuery (astP q) full) = [98, 121, 32, 112, 32] ++ plainOf [] (kQuery q full) := by
  have h1 : kQuery q full = .w Pq.wOrder :: (kJoin (q.keys.map kCol) ++ (.w Pq.wShow :: (kJoin (q.funcs.map kFn) ++ kTop q.top full))) := by
    unfold kQuery
    rw [h]
    rfl
  have h2 : kQuery (astP q) full = .w Pq.wBy :: .w [112] :: .w Pq.wOrder :: (kJoin (q.keys.map kCol) ++ (.w Pq.wShow :: (kJoin (q.funcs.map kFn) ++ kTop q.top full))) := rfl
  rw [h1, h2]
  generalize kJoin (q.keys.map kCol) ++ (.w Pq.wShow :: (kJoin (q.funcs.map kFn) ++ kTop q.top full)) = r
  have e := plainOf_left [98, 121, 32, 112, 32] r Pq.wOrder (by decide)
  have e1 : plainOf [] (.w Pq.wOrder :: r) = plainOf Pq.wOrder r := by simp [plainOf, Kd.psep, Kd.ptext]
  rw [e1, ← e]
  simp [plainOf, Kd.psep, Kd.ptext, Pq.wBy, Pq.wOrder]
theorem astP_good {q : Ast} (h : GoodAst q) : GoodAst (astP q) := ⟨by simp [astP], fun c hc => by simp [astP] at hc; omega, h.keys, h.fne, h.fl, h.fg, h.top⟩
theorem parted_read {q : Ast} (hq : GoodAst q) (h : q.by' = []) {x : Bytes} (hx : x = plainOf [] (kQuery q (fullOf q))) (hl : x.length ≤ 280) : Pq.readE ([98, 121, 32, 112, 32] ++ x) = 0 ∧ ∃ n, Pq.endPS ([98, 121, 32, 112, 32] ++ x) = astPS (astP q) n true := by
  have hp : plainOf [] (kQuery (astP q) (fullOf q)) = [98, 121, 32, 112, 32] ++ x := by rw [astP_plain h, hx]
  have h2 := of_wr (astP_good hq) (full := fullOf q) (canon_wr (kQuery (astP q) (fullOf q)) []) (by rw [hp]; simp; omega)
  simp only [hp] at h2
  obtain ⟨h3, n, h4⟩ := h2
  exact ⟨h3, n, by rw [h4]; exact astPS_full (.inr rfl)⟩
theorem qryOf_top {q : Ast} (h : q.top = none) : (qryOf q).top < 0 := by unfold qryOf; rw [h]; show (-1 : Int) < 0; omega
end Pk
end Go.Proofs.YtcoofnhdbejnpaaGreatDoor

/- Package paneskeep: pick, only; a batch's rows turned in place; a view that is given a batch. -/
namespace Go.Proofs.YtcoofnhdbejnpaaGreatDoor
open Go.RowKit
theorem rchgs_setP : ∀ (l : List Pv.Chg) (j : Nat) (hj : j < l.length) (p : Int), rchgs (l.set j ((p, l[j].1.2), l[j].2)) = (rchgs l).set (j * 4) (.int .i64 p)
  | [], j, hj, _ => by simp at hj
  | c :: l, 0, _, p => by simp [rchgs, rchg]
  | c :: l, j + 1, hj, p => by
    have ih := rchgs_setP l j (by simpa using hj) p
    have e : (j + 1) * 4 = j * 4 + 4 := by omega
    rw [e]
    simp only [rchgs, rchg, List.set_cons_succ, List.getElem_cons_succ, List.flatMap_cons, List.cons_append, List.nil_append] at ih ⊢
    rw [ih]
theorem own_setP {T : Nat} {w : World} {B g cap n : Nat} {l : List Pv.Chg} (h : w.ownsRow B T 4 (.slice (some ⟨g, 0, none⟩) n cap) n (rchgs l)) (j : Nat) (hj : j < l.length) (p : Int) :
    (w.setCell ⟨g, j * 4, none⟩ (.int .i64 p)).ownsRow B T 4 (.slice (some ⟨g, 0, none⟩) n cap) n (rchgs (l.set j ((p, l[j].1.2), l[j].2))) := by
  rw [rchgs_setP]
  have hl := h.1
  refine ⟨by rw [List.length_set]; exact hl, ?_⟩
  rcases h.2 with ⟨h1, _⟩ | ⟨g', cap', cur, h1, h2, h3, h4, h5, h6, h7⟩
  · cases h1
  · cases h1
    refine .inr ⟨g, cap, cur.setIfInBounds (j * 4) (.int .i64 p), rfl, h2, ?_, h4, h5, by simpa using h6, ?_⟩
    · simp [World.setCell, Array.getElem?_modify, h3]
    · rw [← h7]
      simp only [Array.toList_setIfInBounds]
      rw [List.take_set]
theorem own_free4 {w : World} {B T sz g cap n m : Nat} {xs : List Value} (h : w.ownsRow B T sz (.slice (some ⟨g, 0, none⟩) n cap) m xs) (j : Nat) : w.frozen? ⟨g, j, none⟩ = false := by
  rcases h.2 with ⟨h1, _⟩ | ⟨g', cap', cur, h1, h2, h3, _⟩
  · cases h1
  · cases h1; exact free_of_heap h3 j
/-- the first k rows turned -/
def mixF (g : Pv.R3 → Pv.R3) (l : List Pv.Chg) (k : Nat) : List Pv.Chg := Pk.mapR g (l.take k) ++ l.drop k
theorem mixF_zero (g : Pv.R3 → Pv.R3) (l : List Pv.Chg) : mixF g l 0 = l := by simp [mixF, Pk.mapR]
theorem mixF_all (g : Pv.R3 → Pv.R3) (l : List Pv.Chg) {k : Nat} (h : l.length ≤ k) : mixF g l k = Pk.mapR g l := by
  unfold mixF
  rw [List.take_of_length_le h, List.drop_eq_nil_of_le h, List.append_nil]
theorem mixF_len (g : Pv.R3 → Pv.R3) (l : List Pv.Chg) (k : Nat) : (mixF g l k).length = l.length := by
  unfold mixF Pk.mapR
  rw [List.length_append, List.length_map, List.length_take, List.length_drop]; omega
theorem mixF_get (g : Pv.R3 → Pv.R3) (l : List Pv.Chg) (k : Nat) (hk : k < l.length) (h : k < (mixF g l k).length) : (mixF g l k)[k] = l[k] := by
  have e : (mixF g l k)[k]? = l[k]? := by
    unfold mixF Pk.mapR
    rw [List.getElem?_append_right (by simp; omega), List.getElem?_drop]
    have : k + (k - (List.map (fun c : Pv.Chg => (g c.1, c.2)) (l.take k)).length) = k := by simp; omega
    rw [this]
  rw [List.getElem?_eq_getElem h, List.getElem?_eq_getElem hk] at e
  exact Option.some.inj e
theorem mixF_succ (g : Pv.R3 → Pv.R3) (l : List Pv.Chg) (k : Nat) (hk : k < l.length) : (mixF g l k).set k (g l[k].1, l[k].2) = mixF g l (k + 1) := by
  unfold mixF Pk.mapR
  have e : (List.map (fun c : Pv.Chg => (g c.1, c.2)) (l.take k)).length = k := by simp; omega
  rw [List.set_append_right _ _ (by omega), e, Nat.sub_self, List.drop_eq_getElem_cons hk, List.set_cons_zero, List.take_succ_eq_append_getElem hk, List.map_append]
  simp
set_option maxHeartbeats 1000000 in
theorem kpick_any (c n : Int) (w : World) (hc1 : -9223372036854775808 ≤ c) (hc2 : c ≤ 9223372036854775807) (hn : 1 ≤ n) (hn2 : n ≤ 1000000000000000) :
    Calls Tryz.prog 34 #[.int .i64 c, .int .i64 n] w fun e w' => (∃ p : Int, 0 ≤ p ∧ p < n ∧ e = .returned (.int .i64 p)) ∧ w' = w := by
  have hn0 : (n == 0) = false := by simp; omega
  by_cases h : c < 0
  · have m1 : 0 ≤ -(c + 1) := by omega
    have HP : Hid (0 ≤ -((c + 1).tmod n) ∧ -((c + 1).tmod n) < n) := by
      show _ ∧ _
      rw [← Int.neg_tmod, Int.tmod_eq_emod_of_nonneg m1]
      exact ⟨Int.emod_nonneg _ (by omega), Int.emod_lt_of_pos _ (by omega)⟩
    go_enter Tryz.func34, Tryz.ntmps34
    go_wp2
    go_ret
    exact ⟨⟨_, HP.out.1, HP.out.2, rfl⟩, rfl⟩
  · have h' : 0 ≤ c := by omega
    have r1 := Int.emod_nonneg c (show n ≠ 0 by omega)
    have r2 := Int.emod_lt_of_pos c (show 0 < n by omega)
    go_enter Tryz.func34, Tryz.ntmps34
    go_wp2
    go_ret
    exact ⟨⟨_, r1, r2, rfl⟩, rfl⟩
theorem only_take (l : List Pv.Out) (p : Int) (k : Nat) (h : k < l.length) : Pk.onlyF (l.take (k + 1)) p = Pk.onlyF (l.take k) p ++ (if l[k].1.1 == p then [l[k]] else []) := by
  unfold Pk.onlyF
  rw [List.take_succ_eq_append_getElem h, List.filter_append]
  congr 1
  by_cases e : l[k].1.1 = p
  · simp [e]
  · simp [e]
def OnlyPost (w : World) (l : List Pv.Out) (p : Int) (e : Ending) (w' : World) : Prop := Below w.heap.size w w' ∧ ∃ x c, e = .returned (.slice x (Pk.onlyF l p).length c) ∧ RdO w' (.slice x (Pk.onlyF l p).length c) (Pk.onlyF l p)
set_option maxRecDepth 100000 in
set_option maxHeartbeats 2000000 in
theorem only_any {w : World} {l : List Pv.Out} {v : Value} (hv : RdO w v l) (hl : l.length ≤ 1000000) (p : Int) :
    Calls Tryz.prog 35 #[v, .int .i64 p] w fun e w' => OnlyPost w l p e w' := by
  obtain ⟨i0, hi, hz0, hz1, hz2⟩ := info_parts infoOut
  obtain ⟨x6, c6, rfl⟩ := hv.sl
  have HAW : Hid (∀ W : World, Below w.heap.size w W → RdO W (.slice x6 l.length c6) l) := fun W hW => hv.below hW
  have R6 := hide hv
  clear hv
  go_enter Tryz.func35, Tryz.ntmps35
  go_wp2
  go_loopw [5, 6] (fun o i wx => ∃ k : Nat, k ≤ l.length ∧ i = .int .i64 k ∧ OwnO wx w.heap.size o (Pk.onlyF (l.take k) p) ∧ Below w.heap.size w wx) (fun _ i _ => l.length - (intOf i).toNat)
  case atStart => exact ⟨0, by omega, rfl, OwnO.nil _ _, Below.refl _ _⟩
  case round =>
    obtain ⟨k, hk, rfl, hown, hb⟩ := hrel
    have O1 := hide hown
    have B1 := hide hb
    clear hown hb
    by_cases hkl : k < l.length
    · have hkl' : (k : Int) < (l.length : Int) := by omega
      obtain ⟨g6, off6, c6', e6, hc6⟩ := R6.out.form1 (by omega)
      cases e6
      obtain ⟨xk, ck', hrd, k0, k1, k2, k3, k4⟩ := (HAW.out wr B1.out).cell k hkl
      have HRD := hide hrd
      clear hrd
      have HFT := hide (only_take l p k hkl)
      have hfl : (Pk.onlyF (l.take k) p).length ≤ 1000000 := by
        have := List.length_filter_le (fun o : Pv.Out => decide (o.1.1 = p)) (l.take k)
        rw [List.length_take] at this
        unfold Pk.onlyF
        omega
      generalize Pk.onlyF (l.take k) p = L at *
      cases hz : (l[k].1.1 == p)
      · rw [hz, if_neg (by simp), List.append_nil] at HFT
        go_wp2
        go_roundw
        case rel => exact ⟨k + 1, by omega, by go_num, by rw [HFT.out]; exact O1.out, B1.out⟩
        case measure => simp [intOf]; omega
      · rw [hz, if_pos rfl] at HFT
        obtain ⟨vz, hvz, hoz⟩ := O1.out
        have HVZ := hide hvz
        have HOZ := hide hoz
        clear hvz hoz O1
        have hs1 := B1.out.size
        go_wp2_with (at_builtin; refine wpList_append_own_at _ rfl (.tmp 21) (.tmp 26) 42 rfl w.heap.size 55 i0 _ 5 56 Tryz.underlying42 hi hz0 hz1 hz2 rfl (by decide) _ L.length (routs L vz) rfl (HOZ.out.alloc _) _ 1 1 (oc l[k] (.slice xk l[k].2.1.length ck')) rfl rfl (World.news_of_block (heap_alloc_new _ _)) (oc_one _ _ _ _) (by unfold maxLen; omega) (by omega) (by simp; omega) ?_; intro v8 w9 hown8 hgrow8 hnil8 hat8; have b8 : Below w.heap.size w w9 := (B1.out.alloc hs1 _).grown hgrow8 (by simp; omega) (fun k hk => (HOZ.out.lt k hk).1); have O8 := hide (OwnO.app (o := l[k]) (HVZ.out.below ((Below.refl _ _).alloc (Nat.le_refl _) _)) (HRD.out.below ((Below.refl _ _).alloc (Nat.le_refl _) _)) (HOZ.out.alloc _) hgrow8 hown8); clear hown8 hgrow8 hnil8 hat8)
        go_roundw
        case rel => exact ⟨k + 1, by omega, by go_num, by rw [HFT.out]; exact O8.out, b8⟩
        case measure => simp [intOf]; omega
    · have hkl' : ¬ (k : Int) < (l.length : Int) := by omega
      rw [List.take_of_length_le (by omega)] at O1
      obtain ⟨x9, c9, rfl⟩ := O1.out.rd.sl
      go_wp2
      go_ret
      exact ⟨B1.out, x9, c9, rfl, O1.out.rd⟩
/-- a view is given a batch that is not refused -/
def XAx (wr : World) (gx : Nat) (Q : Pv.Qry) (t bt : List Pv.Chg) (e : Ending) (w' : World) : Prop :=
  ∃ x n c, e = .returned (.tuple #[.slice x n c, .int .i64 0, .int .i64 0]) ∧ But (fun k => k = gx) wr w' ∧ XVx w' gx Q (Pv.tableF t bt) ∧ RdO w' (.slice x n c) (Pv.appliedF Q t bt) ∧ Kp wr w'
theorem xapply_x {wr : World} {gx : Nat} {Q : Pv.Qry} {t bt : List Pv.Chg} {v : Value} (h : XVx wr gx Q t) (hv : RdC wr v bt) (h0 : Pv.refusedF t bt = (0, 0)) (hl : bt.length ≤ 50) :
    Calls Tryz.prog 18 #[.pointer (some ⟨gx, 0, none⟩), v] wr fun e w' => XAx wr gx Q t bt e w' := by
  obtain ⟨vb, vk, vf, has, tp, fr, vt, hx⟩ := h
  have h1 : (Pv.refusedF t bt).1 = 0 := by rw [h0]
  refine (xapply_any hx hv (by omega)).mono ?_
  rintro e w' ⟨bu, x, n, c, x2, n2, c2, P, rfl, oq, hm, hblk, hor⟩
  rcases hor with ⟨hq, _⟩ | ⟨_, own⟩
  · exact absurd h1 hq
  · refine ⟨x, n, c, by rw [h0]; rfl, bu, ⟨vb, vk, vf, has, tp, fr, .slice x2 n2 c2, hblk, hx.q.but bu hx.offX (by decide) (by decide) (by decide), RdC.ofOwn own, (hx.inv.next h1).1⟩, ?_, Kp.but bu hx.offX (by decide) (by decide) (by decide)⟩
    rw [← hm]
    exact oq.toP.toO.rd
theorem XVx.butx {w w' : World} {gx gy : Nat} {Q Q2 : Pv.Qry} {t t2 : List Pv.Chg} (h : XVx w gy Q2 t2) (hx : XVx w gx Q t) (hb : But (fun k => k = gx) w w') (hne : gy ≠ gx) : XVx w' gy Q2 t2 := by
  obtain ⟨vb, vk, vf, has, tp, fr, vt, h⟩ := h
  obtain ⟨vb2, vk2, vf2, has2, tp2, fr2, vt2, hx⟩ := hx
  exact ⟨vb, vk, vf, has, tp, fr, vt, h.butX hx hb hne⟩
theorem XVx.rows {w : World} {gx : Nat} {Q : Pv.Qry} {t : List Pv.Chg} (h : XVx w gx Q t) :
    Calls Tryz.prog 19 #[.pointer (some ⟨gx, 0, none⟩)] w fun e w' => RowsPost w (Pv.rowsF Q t) e w' := by
  obtain ⟨vb, vk, vf, has, tp, fr, vt, h⟩ := h
  exact xrows_rd h
theorem XVx.small {w : World} {gx : Nat} {Q : Pv.Qry} {t0 : List Pv.Chg} (h : XVx w gx Q t0) : (∀ {t : List Pv.Chg}, Pv.TInv t → (Pv.rowsF Q t).length ≤ 320000 ∧ ∀ x ∈ Pv.rowsF Q t, x.2.1.length ≤ 1000 ∧ -320000 ≤ x.2.2 ∧ x.2.2 ≤ 320000) ∧ ∀ {t b : List Pv.Chg}, Pv.TInv t → (Pv.refusedF t b).1 = 0 → (Pv.appliedF Q t b).length ≤ 320000 ∧ ∀ x ∈ Pv.appliedF Q t b, x.2.1.length ≤ 1000 ∧ -320000 ≤ x.2.2 ∧ x.2.2 ≤ 320000 := by
  obtain ⟨vb, vk, vf, has, tp, fr, vt, h⟩ := h
  exact ⟨fun ht => rows_small h.q ht, fun ht h0 => applied_small h.q ht h0⟩
end Go.Proofs.YtcoofnhdbejnpaaGreatDoor

