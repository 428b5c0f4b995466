/- Package paneskeep: Known: what it knows while it goes on. -/
import Derived.Test.YtcoofnhdbejnpaaGreatDoorG33
import Derived.Test.YtcoofnhdbejnpaaGreatDoorG46
namespace Go.Proofs.YtcoofnhdbejnpaaGreatDoor
open Go.RowKit
open Pk (LN Fx gAt vAt LineOk nxt adv FuOk)
/-- a FUNC of known making -/
abbrev FnD := Nat × Nat × Fx
def fnD (c : FnD) : Pq.Fn := Pk.fnOf c.1 c.2.1 c.2.2
def fnsD (ds : List FnD) : List Pq.Fn := ds.map fnD
theorem fnsD_len (ds : List FnD) : (fnsD ds).length = ds.length := by simp [fnsD]
theorem fnsD_snoc (ds : List FnD) (c : FnD) : fnsD (ds ++ [c]) = fnsD ds ++ [fnD c] := by simp [fnsD]
def valD (L : LN) (i : Nat) (c : FnD) : Pv.Val := Pk.valK L c.1 c.2.1 c.2.2 i
def valsD (L : LN) (c : FnD) : List Pv.Val := valsK L c.1 c.2.1 c.2.2 L.length
theorem valsD_len (L : LN) (c : FnD) : (valsD L c).length = L.length := valsK_len _ _ _ _ _
theorem valsD_get (L : LN) (c : FnD) (i : Nat) (h : i < (valsD L c).length) : (valsD L c)[i] = valD L i c := by
  simp [valsD, valsK, valD]
/-- what must come of it -/
def outD (d : Bool) (L : LN) (ds : List FnD) : List Pv.Out := (List.range L.length).map (fun i => (Pk.rowK d L i, ds.map (valD L i), 1))
theorem outD_len (d : Bool) (L : LN) (ds : List FnD) : (outD d L ds).length = L.length := by simp [outD]
theorem outD_get (d : Bool) (L : LN) (ds : List FnD) (i : Nat) (h : i < (outD d L ds).length) : (outD d L ds)[i] = (Pk.rowK d L i, ds.map (valD L i), 1) := by simp [outD]
theorem outs_D {d : Bool} {L : LN} {ds : List FnD} (h : LineOk L) (hd : ∀ c ∈ ds, FuOk c.1 c.2.1 c.2.2) : Pk.outsK (Pk.qryOf (Pk.astK d (fnsD ds))) d L = outD d L ds := by
  unfold Pk.outsK outD
  refine List.map_congr_left (fun i hi => ?_)
  have hi' := List.mem_range.1 hi
  unfold Pk.outK
  have e : (Pk.qryOf (Pk.astK d (fnsD ds))).fs.map (fun f => Pv.valueF (Pk.qryOf (Pk.astK d (fnsD ds))).ks (Pk.lineL d L) f (i + 1)) = ds.map (valD L i) := by
    show (ds.map fnD).map (fun f => Pv.valueF [(1, d)] (Pk.lineL d L) f (i + 1)) = _
    rw [List.map_map]
    refine List.map_congr_left (fun c hc => ?_)
    have := hd c hc
    exact Pk.value_known h hi' this.k this.n (by have := this.b; omega)
  rw [e]
theorem told_D {d : Bool} {L : LN} {ds : List FnD} (h : LineOk L) (hd : ∀ c ∈ ds, FuOk c.1 c.2.1 c.2.2) : Pv.appliedF (Pk.qryOf (Pk.astK d (fnsD ds))) [] (Pk.tabK d L).reverse = outD d L ds ∧ Pv.rowsF (Pk.qryOf (Pk.astK d (fnsD ds))) (Pv.tableF [] (Pk.tabK d L).reverse) = outD d L ds := by
  have ht : (Pk.qryOf (Pk.astK d (fnsD ds))).top < 0 := by show (-1 : Int) < 0; decide
  constructor
  · rw [Pk.told_known h ht rfl rfl, outs_D h hd]
  · rw [Pk.tab_next, Pk.rows_known h ht rfl rfl, outs_D h hd]
theorem fnsD_good {ds : List FnD} (hd : ∀ c ∈ ds, FuOk c.1 c.2.1 c.2.2) : ∀ f ∈ fnsD ds, Pk.GoodFn f := fun f hf => by
  obtain ⟨c, hc, rfl⟩ := List.mem_map.1 hf
  exact Pk.fnOf_good (hd c hc)
/-- lists of values behind slices -/
def VsRd (w : World) (L : LN) (ys : List Value) (ds : List FnD) : Prop := ys.length = ds.length ∧ ∀ j (h1 : j < ys.length) (h2 : j < ds.length), RdV w ys[j] (valsD L ds[j])
theorem VsRd.snoc {w : World} {L : LN} {ys : List Value} {ds : List FnD} (h : VsRd w L ys ds) {y : Value} {c : FnD} (hy : RdV w y (valsD L c)) : VsRd w L (ys ++ [y]) (ds ++ [c]) := by
  refine ⟨by simp [h.1], fun j h1 h2 => ?_⟩
  have hl := h.1
  rcases Nat.lt_or_ge j ys.length with hj | hj
  · rw [List.getElem_append_left hj, List.getElem_append_left (by omega)]
    exact h.2 j hj (by omega)
  · have e : j = ys.length := by simp at h1; omega
    subst e
    rw [List.getElem_append_right (Nat.le_refl _), List.getElem_append_right (by omega)]
    simpa [hl] using hy
/-- what Known has made so far -/
structure KB (w wr : World) (L : LN) (sg sv : Value) (bl bf : Nat) (s : ByteArray) (ds : List FnD) (ys : List Value) (v10 : Value) : Prop where
  lb : wr.heap[bl]? = some (.cells #[sg, sv] 27 (0, 0))
  fd : ∃ a, FD wr bf s a
  lm : LM wr sg sv L
  low : Below w.heap.size w wr
  hbf : w.heap.size ≤ bf
  own : wr.ownsRow w.heap.size 34 1 v10 ds.length ys
  vs : VsRd wr L ys ds
  ok : ∀ c ∈ ds, FuOk c.1 c.2.1 c.2.2
/-- all of it but the row of slices -/
theorem KB.part {w wr w' : World} {L : LN} {sg sv : Value} {bl bf : Nat} {s : ByteArray} {ds : List FnD} {ys : List Value} {v10 : Value} (h : KB w wr L sg sv bl bf s ds ys v10) {S : Nat → Prop} {p : Nat → Prop} (hb : But S wr w') (ho : Off S wr p) (hS : ∀ k, k < w.heap.size → ¬ S k) (p1 : p 27) (p3 : p 3) (p4 : p 52) : w'.heap[bl]? = some (.cells #[sg, sv] 27 (0, 0)) ∧ LM w' sg sv L ∧ Below w.heap.size w w' ∧ VsRd w' L ys ds :=
  ⟨(hb.block bl (Array.getElem?_eq_some_iff.1 h.lb).1 (ho.ne h.lb p1)).trans h.lb, ⟨h.lm.rg.but hb ho p3, h.lm.rv.but hb ho p3, h.lm.ok⟩, h.low.trans (hb.below hS h.low.size), h.vs.1, fun j h1 h2 => RdG.but (h.vs.2 j h1 h2) hb ho p4⟩
theorem KB.below {w wr w' : World} {L : LN} {sg sv : Value} {bl bf : Nat} {s : ByteArray} {ds : List FnD} {ys : List Value} {v10 : Value} (h : KB w wr L sg sv bl bf s ds ys v10) (hb : Below wr.heap.size wr w') : KB w w' L sg sv bl bf s ds ys v10 := by
  obtain ⟨a, hf⟩ := h.fd
  exact ⟨(hb.block bl (Array.getElem?_eq_some_iff.1 h.lb).1).trans h.lb, ⟨a, hf.below hb⟩, h.lm.below hb, h.low.trans (hb.mono h.low.size), h.hbf, own_below h.own hb, ⟨h.vs.1, fun j h1 h2 => (h.vs.2 j h1 h2).below hb⟩, h.ok⟩
/-- behind a call that eats of the bytes -/
theorem KB.eat {w wr w' : World} {L : LN} {sg sv : Value} {bl bf a2 : Nat} {s : ByteArray} {ds : List FnD} {ys : List Value} {v10 : Value} (h : KB w wr L sg sv bl bf s ds ys v10) (hf2 : FD w' bf s a2) (hb : But (fun k => k = bf) wr w') : KB w w' L sg sv bl bf s ds ys v10 := by
  obtain ⟨a, hf⟩ := h.fd
  have hbf := h.hbf
  obtain ⟨h1, h2, h3, h4⟩ := h.part hb (feedOff hf) (fun k hk e => by omega) (by decide) (by decide) (by decide)
  refine ⟨h1, ⟨a2, hf2⟩, h2, h3, h.hbf, own_but h.own hb (fun g hg e => ?_), h4, h.ok⟩
  obtain ⟨c, f, q⟩ := own_type h.own hg
  exact (feedOff hf).ne q (by decide) e
/-- one more list of values -/
theorem KB.push {w wr w9 : World} {L : LN} {sg sv : Value} {bl bf : Nat} {s : ByteArray} {ds : List FnD} {ys : List Value} {v10 v9 y : Value} (h : KB w wr L sg sv bl bf s ds ys v10) {o : Obj} (hg : (wr.alloc o).grownBy w9 v10.ownBlock) (hown : w9.ownsRow w.heap.size 34 1 v9 (ds.length + 1) (ys ++ [y])) {c : FnD} (hc : FuOk c.1 c.2.1 c.2.2) (hy : RdV wr y (valsD L c)) : KB w w9 L sg sv bl bf s (ds ++ [c]) (ys ++ [y]) v9 := by
  obtain ⟨a, hf⟩ := h.fd
  have hb := But.push hg
  have ho : Off (fun k => v10.ownBlock = some k) wr (fun T => T ≠ 34) := fun k hk _ => by
    obtain ⟨cc, ff, q⟩ := own_type h.own hk
    exact ⟨_, _, _, q, fun hn => hn rfl⟩
  obtain ⟨h1, h2, h3, h4⟩ := h.part hb ho (fun k hk e => by have := (own_at h.own e).1; omega) (by decide) (by decide) (by decide)
  refine ⟨h1, ⟨a, hf.but hb (ho.ne hf.feed (by decide))⟩, h2, h3, h.hbf, by rw [List.length_append]; exact hown, VsRd.snoc h4 (RdG.but hy hb ho (by decide)), fun e he => ?_⟩
  rcases List.mem_append.1 he with q | q
  · exact h.ok e q
  · rw [List.mem_singleton.1 q]; exact hc
/-- behind Apply -/
theorem KB.view {w wr w' : World} {L : LN} {sg sv : Value} {bl bf : Nat} {s : ByteArray} {ds : List FnD} {ys : List Value} {v10 : Value} (h : KB w wr L sg sv bl bf s ds ys v10) {gx : Nat} (hgx : w.heap.size ≤ gx) (ho : Off (fun k => k = gx) wr (fun T => T ≠ 114)) (hb : But (fun k => k = gx) wr w') : KB w w' L sg sv bl bf s ds ys v10 := by
  obtain ⟨a, hf⟩ := h.fd
  obtain ⟨h1, h2, h3, h4⟩ := h.part hb ho (fun k hk e => by omega) (by decide) (by decide) (by decide)
  refine ⟨h1, ⟨a, hf.but hb (ho.ne hf.feed (by decide))⟩, h2, h3, h.hbf, own_but h.own hb (fun g hg e => ?_), h4, h.ok⟩
  obtain ⟨c, f, q⟩ := own_type h.own hg
  exact ho.ne q (by decide) e
def XKPost (w : World) (gx : Nat) (vb vk vf : Value) (has : Bool) (tp fr : Int) (Q : Pv.Qry) (t bt : List Pv.Chg) (e : Ending) (w' : World) : Prop :=
  ∃ x n c vt', e = .returned (.tuple #[.slice x n c, .int .i64 0, .int .i64 0]) ∧ But (fun k => k = gx) w w' ∧ XV w' gx vb vk vf has tp fr vt' Q (Pv.tableF t bt) ∧ RdO w' (.slice x n c) (Pv.appliedF Q t bt)
theorem xapply_K {w : World} {gx : Nat} {Q : Pv.Qry} {t bt : List Pv.Chg} {vbt vb vk vf vt : Value} {has : Bool} {tp fr : Int} (h0 : Pv.refusedF t bt = (0, 0)) (hl : bt.length ≤ 50) (hx : XV w gx vb vk vf has tp fr vt Q t) (hbt : RdC w vbt bt) :
    Calls Tryz.prog 18 #[.pointer (some ⟨gx, 0, none⟩), vbt] w fun e w' => XKPost w gx vb vk vf has tp fr Q t bt e w' := by
  have h1 : (Pv.refusedF t bt).1 = 0 := by rw [h0]
  refine (xapply_any hx hbt (by omega)).mono ?_
  rintro e w' ⟨bu, x, n, c, x2, n2, c2, P, rfl, oq, hm, hblk, hor⟩
  rcases hor with ⟨hq, _⟩ | ⟨_, own⟩
  · exact absurd h1 hq
  · refine ⟨x, n, c, .slice x2 n2 c2, by rw [h0]; rfl, bu, ⟨hblk, hx.q.but bu hx.offX (by decide) (by decide) (by decide), RdC.ofOwn own, (hx.inv.next h1).1⟩, ?_⟩
    rw [← hm]
    exact oq.toP.toO.rd
theorem infoSl : (Tryz.prog.info? 34).map (fun i => (i.zero, i.size, i.bytes)) = some (some (.slice none 0 0), 1, 24) := by kernel_rfl
theorem bat_get (d : Bool) (L : LN) {i j : Nat} (h : L.length = i + j + 1) (hj : j < (Pk.tabK d L).reverse.length) : (Pk.tabK d L).reverse[j] = (Pk.rowK d L i, 1) := by
  rw [List.getElem_reverse]
  unfold Pk.tabK
  rw [List.getElem_map, List.getElem_range]
  have e : ((List.range L.length).map (fun i => (Pk.rowK d L i, (1 : Int)))).length - 1 - j = i := by simp; omega
  rw [e]
end Go.Proofs.YtcoofnhdbejnpaaGreatDoor

/- Package paneskeep: Known answers true, desc is false (written by gen_gm.py). -/
namespace Go.Proofs.YtcoofnhdbejnpaaGreatDoor
open Go.RowKit
open Pk (LN Fx gAt vAt LineOk nxt adv FuOk)
set_option maxRecDepth 100000 in
set_option maxHeartbeats 4000000 in
theorem known_false (s s2 : ByteArray) (hs : s.size ≤ maxLen) (hs2 : s2.size ≤ maxLen) (w : World) :
    Calls Tryz.prog 6 #[.string s, .string s2, .bool false] w fun e w' => e = .returned (.bool true) ∧ Below w.heap.size w w' := by
  obtain ⟨j0, hj, hy0, hy1, hy2⟩ := info_parts infoSl
  obtain ⟨i0, hi0, hz0, hz1, hz2⟩ := info_parts infoVal
  go_enter Tryz.func6, Tryz.ntmps6
  go_wp2_with fail
  refine (lined_any s hs _).mono ?_
  rintro e w1 ⟨b1, sg, sv, L, rfl, hlm⟩
  obtain ⟨ag, cg, rfl⟩ := RdG.sl hlm.rg
  obtain ⟨av, cv, rfl⟩ := RdG.sl hlm.rv
  have hl := hlm.ok.len
  have B1 := hide b1
  have M1 := hide hlm
  clear b1 hlm
  unfold lv
  go_upto_region 2 with fail
  have D2 := hide (heap_alloc_new w1 (.cells #[.slice ag L.length cg, .slice av L.length cv] 27))
  have E2 := hide ((Below.refl w1.heap.size w1).alloc (Nat.le_refl _) (.cells #[.slice ag L.length cg, .slice av L.length cv] 27))
  generalize w1.alloc (.cells #[.slice ag L.length cg, .slice av L.length cv] 27) = w2 at *
  go_upto_region 3 with fail
  have D3 := hide (heap_alloc_new w2 (.cells #[.string s2, .int .i64 0] 31))
  have E3 := hide ((Below.refl w2.heap.size w2).alloc (Nat.le_refl _) (.cells #[.string s2, .int .i64 0] 31))
  generalize w2.alloc (.cells #[.string s2, .int .i64 0] 31) = w3 at *
  have K3 : Hid (KB w w3 L (.slice ag L.length cg) (.slice av L.length cv) w1.heap.size w2.heap.size s2 [] [] (.slice none 0 0)) := by
    have h2 : Below w1.heap.size w1 w2 := E2.out
    have h3 : Below w2.heap.size w2 w3 := E3.out
    have hz := h2.size
    have hz1 := B1.out.size
    exact ⟨(h3.block _ (Array.getElem?_eq_some_iff.1 D2.out).1).trans D2.out, ⟨0, D3.out, Nat.zero_le _, hs2⟩, (M1.out.below h2).below h3, (B1.out.trans (h2.mono hz1)).trans (h3.mono (Nat.le_trans hz1 hz)), by omega, World.ownsRow_nil _ _ _ _, ⟨rfl, fun j h => by simp at h⟩, fun c hc => by simp at hc⟩
  clear D2 E2 D3 E3 M1
  generalize w1.heap.size = bl at *
  generalize w2.heap.size = bf at *
  obtain ⟨a0, hf0⟩ := K3.out.fd
  have F3 := hide hf0
  clear hf0
  go_wp2_with fail
  refine (fnext3 F3.out 4 4 rfl (by omega) (by omega)).mono ?_
  rintro e w4 ⟨rfl, f4, b4⟩
  have K4 := hide (K3.out.eat f4 b4)
  have n4 := Pk.nxt_lt s2.data.toList a0 4 (by omega)
  generalize nxt s2.data.toList a0 4 = nn at *
  clear f4 b4 K3 F3 B1
  have X4 : Hid (∃ ds ys, ds.length = 0 ∧ KB w w4 L (.slice ag L.length cg) (.slice av L.length cv) bl bf s2 ds ys (.slice none 0 0) ∧ (⟨#[111, 114, 100, 101, 114, 32, 107, 32, 115, 104, 111, 119, 32]⟩ : ByteArray).data.toList = Pk.txtK false (fnsD ds)) := ⟨[], [], rfl, K4.out, rfl⟩
  clear K4
  go_wp2
  go_loopw [9, 10, 12] (fun t9 v10 i12 wr => ∃ (i : Nat) (tk : ByteArray), i ≤ nn + 1 ∧ i12 = .int .i64 i ∧ t9 = .string tk ∧ tk.size ≤ 20 + 50 * i ∧ (∃ x n c, v10 = .slice x n c) ∧ Hid (∃ ds ys, ds.length = i ∧ KB w wr L (.slice ag L.length cg) (.slice av L.length cv) bl bf s2 ds ys v10 ∧ tk.data.toList = Pk.txtK false (fnsD ds))) (fun _ _ i _ => nn + 1 - (intOf i).toNat)
  case atStart => exact ⟨0, _, by omega, rfl, rfl, by decide, ⟨_, _, _, rfl⟩, X4⟩
  case round =>
    obtain ⟨i, tk, hi, rfl, rfl, htk, ⟨x0, m0, c0', rfl⟩, HX⟩ := hrel
    obtain ⟨ds, ys, hdl, hkb, htx⟩ := HX.out
    have K5 := hide hkb
    have T5 := hide htx
    have DL := hide hdl
    clear hkb htx hdl HX X4
    by_cases hlt : i < nn + 1
    · have hlt' : (i : Int) < 1 + (nn : Int) := by omega
      have q0 : wr.cell? ⟨bl, 0, none⟩ = some (.slice ag L.length cg) := cell_of_heap K5.out.lb 0
      have q1 : wr.cell? ⟨bl, 1, none⟩ = some (.slice av L.length cv) := cell_of_heap K5.out.lb 1
      obtain ⟨a5, hf5⟩ := K5.out.fd
      have F5 := hide hf5
      clear hf5
      go_wp2_with fail
      refine (kfun_any K5.out.lm F5.out).mono ?_
      rintro e w6 ⟨k, n, x, tk2, y, c, a6, rfl, fu, ht2, rv, f6, b6⟩
      have K6 := hide (K5.out.eat f6 b6)
      have HFU := hide fu
      have HT2 := hide ht2
      have RV := hide rv
      have hl2 : tk2.size ≤ 40 := by
        have h1 := Pq.fnTxt_len (Pk.fnOf k n x)
        rw [← ht2] at h1
        simpa using h1
      have HSN := hide (Pk.txtK_snoc false (fnsD ds) (Pk.fnOf k n x))
      have hdl6 := DL.out
      have OW : Hid (w6.ownsRow w.heap.size 34 1 (.slice x0 m0 c0') i ys) := by
        have h := K6.out.own
        rw [DL.out] at h
        exact h
      have hlow := K6.out.low.size
      clear fu ht2 rv f6 b6 q0 q1 F5 K5 hdl6
      by_cases h0 : i = 0
      · have HTT : Hid ((tk ++ tk2).data.toList = Pk.txtK false (fnsD (ds ++ [(k, n, x)]))) := by
          show _ = _
          rw [fnsD_snoc]
          show _ = Pk.txtK false (fnsD ds ++ [Pk.fnOf k n x])
          rw [HSN.out, if_pos (by rw [fnsD_len, DL.out]; exact h0), ← T5.out, ← HT2.out]
          simp
        have h0' : ¬ (0 : Int) < (i : Int) := by omega
        have HH0 := hide h0
        clear h0
        go_wp2_with (at_builtin; refine wpList_append_own_at _ rfl (.tmp 57) (.tmp 59) 32 rfl w.heap.size 34 j0 _ 1 24 Tryz.underlying32 hj hy0 hy1 hy2 rfl (by decide) _ i ys rfl (OW.out.alloc _) _ 1 1 [.slice y L.length c] rfl rfl (World.news_of_block (heap_alloc_new _ _)) (by intro u hu; simp at hu; rcases hu with rfl; rfl) (by unfold maxLen; omega) (by omega) (by simp; omega) ?_; intro v9 w9 hown9 hgrow9 hnil9 hat9; obtain ⟨x9, c9, rfl⟩ := ownS hown9; have K9 := hide (K6.out.push (c := (k, n, x)) hgrow9 (by rw [DL.out]; exact hown9) HFU.out RV.out); clear hown9 hgrow9 hnil9 hat9)
        go_roundw
        case rel => exact ⟨i + 1, _, by omega, by go_num, rfl, by have h2 : (⟨#[44, 32]⟩ : ByteArray).size = 2 := rfl; simp; omega, ⟨_, _, _, rfl⟩, _, _, by rw [List.length_append, DL.out]; rfl, K9.out, HTT.out⟩
        case measure => simp [intOf]; omega
      · have HTT : Hid ((tk ++ ⟨#[44, 32]⟩ ++ tk2).data.toList = Pk.txtK false (fnsD (ds ++ [(k, n, x)]))) := by
          show _ = _
          rw [fnsD_snoc]
          show _ = Pk.txtK false (fnsD ds ++ [Pk.fnOf k n x])
          rw [HSN.out, if_neg (by rw [fnsD_len, DL.out]; exact h0), ← T5.out, ← HT2.out]
          simp
        have h0' : (0 : Int) < (i : Int) := by omega
        have HH0 := hide h0
        clear h0
        go_wp2_with (at_builtin; refine wpList_append_own_at _ rfl (.tmp 57) (.tmp 59) 32 rfl w.heap.size 34 j0 _ 1 24 Tryz.underlying32 hj hy0 hy1 hy2 rfl (by decide) _ i ys rfl (OW.out.alloc _) _ 1 1 [.slice y L.length c] rfl rfl (World.news_of_block (heap_alloc_new _ _)) (by intro u hu; simp at hu; rcases hu with rfl; rfl) (by unfold maxLen; omega) (by omega) (by simp; omega) ?_; intro v9 w9 hown9 hgrow9 hnil9 hat9; obtain ⟨x9, c9, rfl⟩ := ownS hown9; have K9 := hide (K6.out.push (c := (k, n, x)) hgrow9 (by rw [DL.out]; exact hown9) HFU.out RV.out); clear hown9 hgrow9 hnil9 hat9)
        go_roundw
        case rel => exact ⟨i + 1, _, by omega, by go_num, rfl, by have h2 : (⟨#[44, 32]⟩ : ByteArray).size = 2 := rfl; simp; omega, ⟨_, _, _, rfl⟩, _, _, by rw [List.length_append, DL.out]; rfl, K9.out, HTT.out⟩
        case measure => simp [intOf]; omega
    · have hlt' : ¬ (i : Int) < 1 + (nn : Int) := by omega
      have hin : i = nn + 1 := by omega
      have HIN := hide hin
      clear hin
      have HNE : Hid (fnsD ds ≠ []) := fun e => by
        have := congrArg List.length e
        rw [fnsD_len, DL.out, HIN.out] at this
        simp at this
      have HL4 : Hid ((fnsD ds).length ≤ 4) := by show _ ≤ _; rw [fnsD_len, DL.out, HIN.out]; omega
      have HRD := hide (Pk.known_read (d := false) HNE.out HL4.out (fnsD_good K5.out.ok))
      obtain ⟨hr, n6, he⟩ := HRD.out
      have HR := hide hr
      have HE := hide he
      clear hr he HRD
      go_wp2_with fail
      refine (begin_any (s := tk) (n := n6) (by unfold maxLen; omega) (Pk.astK_good (d := false) HNE.out HL4.out (fnsD_good K5.out.ok)) (by rw [T5.out]; exact HR.out) (by rw [T5.out]; exact HE.out) wr).mono ?_
      rintro e w6 ⟨b6, g, vb, vk, vf, has, tp, fr, rfl, hg, hx⟩
      have K6 := hide (K5.out.below b6)
      have hg' : w.heap.size ≤ g := Nat.le_trans K5.out.low.size hg
      have X6 := hide hx
      have q0 : w6.cell? ⟨bl, 0, none⟩ = some (.slice ag L.length cg) := cell_of_heap K6.out.lb 0
      have q1 : w6.cell? ⟨bl, 1, none⟩ = some (.slice av L.length cv) := cell_of_heap K6.out.lb 1
      clear b6 hx hg K5 HR HE T5
      go_wp2_with fail
      refine (krows_any K6.out.lm false).mono ?_
      rintro e w7 ⟨b7, x7, m7, c7, rfl, rc7⟩
      obtain rfl : m7 = L.length := by have := RdC.lenC rc7; rw [this]; simp [Pk.tabK_len]
      have K7 := hide (K6.out.below b7)
      have X7 := hide (X6.out.below b7)
      have C7 := hide rc7
      clear b7 rc7 K6 X6 q0 q1
      go_wp2_with fail
      refine (xapply_K (Pk.tab_fine K7.out.lm.ok) (by rw [List.length_reverse, Pk.tabK_len]; omega) X7.out C7.out).mono ?_
      rintro e w8 ⟨x8, m8, c8, vt8, rfl, b8, xv8, ro8⟩
      have TD := hide (told_D (d := false) K7.out.lm.ok K7.out.ok)
      rw [TD.out.1] at ro8
      obtain rfl : m8 = L.length := by
        obtain ⟨aa, cc, ee⟩ := ro8.sl
        cases ee
        rw [outD_len]
      have K8 := hide (K7.out.view hg' X7.out.offX b8)
      have C8 := hide (C7.out.but b8 X7.out.offX (by decide))
      have X8 := hide xv8
      have O8 := hide ro8
      clear b8 xv8 ro8 K7 C7 X7
      go_wp2_with fail
      refine (xrows_rd X8.out).mono ?_
      rintro e w9 ⟨b9, x9, m9, c9, rfl, ro9⟩
      rw [TD.out.2] at ro9
      obtain rfl : m9 = L.length := by
        obtain ⟨aa, cc, ee⟩ := ro9.sl
        cases ee
        rw [outD_len]
      have K9 := hide (K8.out.below b9)
      have C9 := hide (C8.out.below b9)
      have O9 := hide (O8.out.below b9)
      have P9 := hide ro9
      clear b9 ro9 K8 C8 O8 X8 TD
      obtain ⟨gv, ov, cvv, ev, hcv⟩ := RdG.form1 (RdG.ofOwn K9.out.own) (by rw [DL.out, HIN.out]; omega)
      cases ev
      have AC : ∀ wx, Hid (Below w9.heap.size w9 wx → wx.cell? ⟨bl, 1, none⟩ = some (.slice av L.length cv)) := fun wx h => cell_of_heap (K9.out.below h).lb 1
      have q1 := (AC w9).out (Below.refl _ _)
      go_wp2
      clear q1
      go_loopw [22] (fun i22 wr => ∃ i : Nat, i ≤ L.length ∧ i22 = .int .i64 i ∧ Hid (Below w9.heap.size w9 wr)) (fun i _ => L.length - (intOf i).toNat)
      case atStart => exact ⟨0, by omega, rfl, Below.refl _ _⟩
      case round =>
        obtain ⟨i, hi, rfl, BA⟩ := hrel
        have q1 := (AC _).out BA.out
        by_cases hil : i < L.length
        · have hil' : (i : Int) < (L.length : Int) := by omega
          obtain ⟨j, hj1⟩ : ∃ j, L.length = i + j + 1 := ⟨L.length - i - 1, by omega⟩
          have HJ1 := hide hj1
          have hjl : j < L.length := by omega
          have hjl' : (j : Int) < (L.length : Int) := by omega
          have hrl : j < (Pk.tabK false L).reverse.length := by rw [List.length_reverse, Pk.tabK_len]; exact hjl
          obtain ⟨g7, o7, cc7, e7, _⟩ := C9.out.form1 (by rw [List.length_reverse, Pk.tabK_len]; omega)
          obtain ⟨g8, o8, cc8, e8, _⟩ := O9.out.form1 (by rw [outD_len]; omega)
          obtain ⟨g9, o9, cc9, e9, _⟩ := P9.out.form1 (by rw [outD_len]; omega)
          rw [List.length_reverse, Pk.tabK_len] at e7
          rw [outD_len] at e8 e9
          cases e7
          cases e8
          cases e9
          obtain ⟨z0, z1, z2, z3⟩ := (C9.out.below BA.out).cell j hrl
          rw [bat_get false L HJ1.out hrl] at z0 z1 z2 z3
          simp only at z0 z1 z2
          have hw : IntKind.i64.wrap ((L.length : Int) - 1 - (i : Int)) = (j : Int) := by rw [wrap_id2 (by omega) (by omega)]; omega
          have hE : (L.length : Int) - 1 - (i : Int) = (j : Int) := by omega
          generalize hrow : Pk.rowK false L i = row at *
          have HROW := hide hrow
          clear hrow z3 hj1 hrl
          go_upto_region 28 with fail
          have DA := hide (heap_alloc_new wr (.cells #[.int .i64 row.1, .int .i64 row.2.1, .int .i64 row.2.2] 48))
          have EA := hide ((Below.refl wr.heap.size wr).alloc (Nat.le_refl _) (.cells #[.int .i64 row.1, .int .i64 row.2.1, .int .i64 row.2.2] 48))
          generalize wr.alloc (.cells #[.int .i64 row.1, .int .i64 row.2.1, .int .i64 row.2.2] 48) = wa at *
          have BB := hide (BA.out.trans (EA.out.mono BA.out.size))
          generalize wr.heap.size = hr at *
          clear z0 z1 z2 q1 hw hE EA
          go_wp2
          go_loopw [24, 25] (fun o24 k25 wy => ∃ k : Nat, k ≤ nn + 1 ∧ k25 = .int .i64 k ∧ (∃ x n c, o24 = .slice x n c) ∧ Hid (Below wa.heap.size wa wy) ∧ Hid (wy.ownsRow wa.heap.size 52 2 o24 k (rvals ((ds.take k).map (valD L i))))) (fun _ k _ => nn + 1 - (intOf k).toNat)
          case atStart => exact ⟨0, by omega, rfl, ⟨_, _, _, rfl⟩, Below.refl _ _, World.ownsRow_nil _ _ _ _⟩
          case round =>
            obtain ⟨k, hk, rfl, ⟨xo, no, co, rfl⟩, BC, OC⟩ := hrel
            have BD := hide (BB.out.trans (BC.out.mono BB.out.size))
            have hsC := BC.out.size
            by_cases hkl : k < nn + 1
            · have hkl' : (k : Int) < 1 + (nn : Int) := by omega
              have hkd : k < ds.length := by have h1 := DL.out; have h2 := HIN.out; omega
              have hkd' : (k : Int) < (ds.length : Int) := by omega
              have KC := hide (K9.out.below BD.out)
              have hyk : k < ys.length := by have h1 := KC.out.vs.1; omega
              have yk : wr.cell? ⟨gv, ov + k, none⟩ = some ys[k] := RdG.cell (RdG.ofOwn KC.out.own) k _ (List.getElem?_eq_getElem hyk)
              have rv := KC.out.vs.2 k hyk hkd
              obtain ⟨gy, oy, cy, ey, _⟩ := RdG.form1 rv (by rw [valsD_len]; omega)
              rw [valsD_len] at ey
              rw [ey] at yk rv
              obtain ⟨c0, c1⟩ := RdV.cell rv i (by rw [valsD_len]; exact hil)
              rw [valsD_get] at c0 c1
              have HTK : Hid ((ds.take (k + 1)).map (valD L i) = (ds.take k).map (valD L i) ++ [valD L i ds[k]]) := by
                show _ = _
                rw [List.take_succ_eq_append_getElem hkd, List.map_append]
                rfl
              generalize (ds.take k).map (valD L i) = cur at *
              generalize valD L i ds[k] = val at *
              clear rv ey hyk
              go_wp2_with (at_builtin; refine wpList_append_own_at _ rfl (.tmp 123) (.tmp 131) 34 rfl wa.heap.size 52 i0 _ 2 16 Tryz.underlying34 hi0 hz0 hz1 hz2 rfl (by decide) _ k (rvals cur) rfl (OC.out.alloc _) _ 1 1 (vc val) rfl rfl (World.news_of_block (heap_alloc_new _ _)) (vc_one val) (by unfold maxLen; omega) (by omega) (by simp; omega) ?_; intro v11 w11 hown11 hgrow11 hnil11 hat11; have B11 := hide ((BC.out.alloc hsC _).grown hgrow11 (by simp; omega) (fun k hk => (OC.out.lt k hk).1)); have O11 := hide hown11; have HF11 := hide (own_sl hown11); clear hown11 hgrow11 hnil11 hat11)
              go_roundw
              case rel =>
                refine ⟨k + 1, by omega, by go_num, HF11.out, B11, ?_⟩
                rw [HTK.out, rvals_snoc]
                exact O11
              case measure => simp [intOf]; omega
            · have hkl' : ¬ (k : Int) < 1 + (nn : Int) := by omega
              have hkk : ds.take k = ds := List.take_of_length_le (by have h1 := DL.out; have h2 := HIN.out; omega)
              rw [hkk] at OC
              have RW : Hid (RdV wr (.slice xo no co) (ds.map (valD L i))) := RdV.ofOwn OC.out
              obtain ⟨ya, da, hra, a0, a1, a2, a3, a4⟩ := (O9.out.below BD.out).cell i (by rw [outD_len]; exact hil)
              obtain ⟨yb, db, hrb, b0, b1, b2, b3, b4⟩ := (P9.out.below BD.out).cell i (by rw [outD_len]; exact hil)
              simp only [outD_get, List.length_map, HROW.out] at hra a0 a1 a2 a3 a4 hrb b0 b1 b2 b3 b4
              have DW : wr.heap[hr]? = some (.cells #[.int .i64 row.1, .int .i64 row.2.1, .int .i64 row.2.2] 48 (0, 0)) := (BC.out.block _ (Array.getElem?_eq_some_iff.1 DA.out).1).trans DA.out
              have r0 : wr.cell? ⟨hr, 0, none⟩ = some (.int .i64 row.1) := cell_of_heap DW 0
              have r1 : wr.cell? ⟨hr, 1, none⟩ = some (.int .i64 row.2.1) := cell_of_heap DW 1
              have r2 : wr.cell? ⟨hr, 2, none⟩ = some (.int .i64 row.2.2) := cell_of_heap DW 2
              have kp : ∀ {wx : World} {p : Addr} {v : Value}, Below wr.heap.size wr wx → wr.cell? p = some v → wx.cell? p = some v := fun hb h => (hb.cell (World.cell?_lt h)).trans h
              have AC2 : ∀ wx, Hid (Below wr.heap.size wr wx → (wx.cell? ⟨g8, o8 + i * 5, none⟩ = some (.int .i64 row.1) ∧ wx.cell? ⟨g8, o8 + i * 5 + 1, none⟩ = some (.int .i64 row.2.1) ∧ wx.cell? ⟨g8, o8 + i * 5 + 2, none⟩ = some (.int .i64 row.2.2) ∧ wx.cell? ⟨g8, o8 + i * 5 + 3, none⟩ = some (.slice ya ds.length da) ∧ wx.cell? ⟨g8, o8 + i * 5 + 4, none⟩ = some (.int .i64 1)) ∧ (wx.cell? ⟨g9, o9 + i * 5, none⟩ = some (.int .i64 row.1) ∧ wx.cell? ⟨g9, o9 + i * 5 + 1, none⟩ = some (.int .i64 row.2.1) ∧ wx.cell? ⟨g9, o9 + i * 5 + 2, none⟩ = some (.int .i64 row.2.2) ∧ wx.cell? ⟨g9, o9 + i * 5 + 3, none⟩ = some (.slice yb ds.length db) ∧ wx.cell? ⟨g9, o9 + i * 5 + 4, none⟩ = some (.int .i64 1)) ∧ wx.cell? ⟨hr, 0, none⟩ = some (.int .i64 row.1) ∧ wx.cell? ⟨hr, 1, none⟩ = some (.int .i64 row.2.1) ∧ wx.cell? ⟨hr, 2, none⟩ = some (.int .i64 row.2.2)) := fun wx hb =>
                ⟨⟨kp hb a0, kp hb a1, kp hb a2, kp hb a3, kp hb a4⟩, ⟨kp hb b0, kp hb b1, kp hb b2, kp hb b3, kp hb b4⟩, kp hb r0, kp hb r1, kp hb r2⟩
              have RA := hide hra
              have RB := hide hrb
              clear kp DW hkk OC hra hrb a0 a1 a2 a3 a4 b0 b1 b2 b3 b4 r0 r1 r2
              obtain ⟨⟨a0, a1, a2, a3, a4⟩, ⟨b0, b1, b2, b3, b4⟩, r0, r1, r2⟩ := (AC2 _).out (Below.refl _ _)
              have hvl : (ds.map (valD L i)).length ≤ 1000000 := by have h1 := DL.out; have h2 := HIN.out; rw [List.length_map]; omega
              have HVL := hide hvl
              clear hvl
              go_upto_region 33 with fail
              go_still_tail 6, (by kernel_rfl)
              go_wp2_with fail
              refine (ksameRow_eq row _).mono ?_
              rintro e wz ⟨rfl, ez⟩
              replace ez := undrew ez
              have EZ := hide ez
              clear ez a0 a1 a2 a3 a4 b0 b1 b2 b3 b4 r0 r1 r2
              obtain ⟨⟨a0, a1, a2, a3, a4⟩, ⟨b0, b1, b2, b3, b4⟩, r0, r1, r2⟩ := (AC2 _).out EZ.out
              go_upto_region 34 with fail
              go_still_tail 6, (by kernel_rfl)
              go_wp2_with fail
              refine (ksameRow_eq row _).mono ?_
              rintro e wz2 ⟨rfl, ez⟩
              replace ez := undrew ez
              have EZ2 := hide (EZ.out.trans (ez.mono EZ.out.size))
              clear ez EZ a0 a1 a2 a3 a4 b0 b1 b2 b3 b4 r0 r1 r2
              obtain ⟨⟨a0, a1, a2, a3, a4⟩, ⟨b0, b1, b2, b3, b4⟩, r0, r1, r2⟩ := (AC2 _).out EZ2.out
              go_wp2_with fail
              refine (ksameVals_eq (l := ds.map (valD L i)) (RA.out.below EZ2.out) (RW.out.below EZ2.out) HVL.out).mono ?_
              rintro e wz3 ⟨rfl, ez⟩
              have EZ3 := hide (EZ2.out.trans (ez.mono EZ2.out.size))
              clear ez EZ2 a0 a1 a2 a3 a4 b0 b1 b2 b3 b4 r0 r1 r2
              obtain ⟨⟨a0, a1, a2, a3, a4⟩, ⟨b0, b1, b2, b3, b4⟩, r0, r1, r2⟩ := (AC2 _).out EZ3.out
              go_wp2_with fail
              refine (ksameVals_eq (l := ds.map (valD L i)) (RB.out.below EZ3.out) (RW.out.below EZ3.out) HVL.out).mono ?_
              rintro e wz4 ⟨rfl, ez⟩
              have EZ4 := hide (EZ3.out.trans (ez.mono EZ3.out.size))
              clear ez EZ3 a0 a1 a2 a3 a4 b0 b1 b2 b3 b4 r0 r1 r2
              obtain ⟨⟨a0, a1, a2, a3, a4⟩, ⟨b0, b1, b2, b3, b4⟩, r0, r1, r2⟩ := (AC2 _).out EZ4.out
              have BF := hide (BD.out.trans (EZ4.out.mono BD.out.size))
              go_wp2
              go_roundw
              case rel => exact ⟨i + 1, by omega, by go_num, BF⟩
              case measure => simp [intOf]; omega
        · have hil' : ¬ (i : Int) < (L.length : Int) := by omega
          go_wp2
          go_ret
          exact ⟨rfl, (K9.out.below BA.out).low⟩
end Go.Proofs.YtcoofnhdbejnpaaGreatDoor

