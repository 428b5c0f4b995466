/- Package paneskeep: a FUNC of known making (written by gen_gk.py). -/
import Derived.Test.YtcoofnhdbejnpaaGreatDoorG34
import Derived.Test.YtcoofnhdbejnpaaGreatDoorG35
import Derived.Test.YtcoofnhdbejnpaaGreatDoorG45
namespace Go.Proofs.YtcoofnhdbejnpaaGreatDoor
open Go.RowKit
open Pk (LN Fx gAt vAt LineOk nxt adv FuOk)
theorem feedOff {w : World} {bf a : Nat} {s : ByteArray} (h : FD w bf s a) : Off (fun k => k = bf) w (fun T => T ≠ 31) := fun k hk _ => by
  subst hk
  exact ⟨_, _, _, h.feed, fun hn => hn rfl⟩
theorem LM.but {w w' : World} {sg sv : Value} {L : LN} {bf a : Nat} {s : ByteArray} (h : LM w sg sv L) (hf : FD w bf s a) (hb : But (fun k => k = bf) w w') : LM w' sg sv L := ⟨h.rg.but hb (feedOff hf) (by decide), h.rv.but hb (feedOff hf) (by decide), h.ok⟩
theorem vv_ag (v : Pv.Val) : vv v = .agg #[.bool v.isSome, .int .i64 (v.getD 0)] := by cases v <;> rfl
def valsK (L : LN) (k n : Nat) (x : Fx) (i : Nat) : List Pv.Val := (List.range i).map (Pk.valK L k n x)
theorem valsK_len (L : LN) (k n : Nat) (x : Fx) (i : Nat) : (valsK L k n x i).length = i := by simp [valsK]
theorem valsK_succ (L : LN) (k n : Nat) (x : Fx) (i : Nat) : valsK L k n x (i + 1) = valsK L k n x i ++ [Pk.valK L k n x i] := by simp [valsK, List.range_succ]
/-- the words -/
def wordK (k : Nat) : Pq.Bytes := if k < 3 then Pq.kindTxt k else Pq.kindTxt (k + 3)
theorem word9 {w : World} {c : Nat} (h : w.heap[c]? = some (.cells #[.string ⟨#[110, 117, 109, 98, 101, 114]⟩, .string ⟨#[114, 97, 110, 107]⟩, .string ⟨#[100, 101, 110, 115, 101]⟩, .string ⟨#[99, 111, 117, 110, 116]⟩, .string ⟨#[115, 117, 109]⟩, .string ⟨#[109, 105, 110]⟩, .string ⟨#[109, 97, 120]⟩, .string ⟨#[102, 105, 114, 115, 116]⟩, .string ⟨#[108, 97, 115, 116]⟩] 9 (0, 0))) {k : Nat} (hk : k < 9) : w.cell? ⟨c, k, none⟩ = some (.string ⟨(wordK k).toArray⟩) := by
  have : k = 0 ∨ k = 1 ∨ k = 2 ∨ k = 3 ∨ k = 4 ∨ k = 5 ∨ k = 6 ∨ k = 7 ∨ k = 8 := by omega
  rcases this with rfl | rfl | rfl | rfl | rfl | rfl | rfl | rfl | rfl
  all_goals exact cell_of_heap h _
theorem wordK_len (k : Nat) : (wordK k).length ≤ 8 := by
  unfold wordK
  split <;> exact Nat.le_trans (Pq.kindTxt_len _) (by decide)
/-- the state of the call when the values are made -/
structure FS (w W : World) (sg sv : Value) (L : LN) (bf : Nat) (s : ByteArray) (a bw bx : Nat) (tk : ByteArray) (x : Fx) : Prop where
  lb : W.heap[w.heap.size]? = some (.cells #[sg, sv] 27 (0, 0))
  wb : W.heap[bw]? = some (.cells #[.string ⟨#[110, 117, 109, 98, 101, 114]⟩, .string ⟨#[114, 97, 110, 107]⟩, .string ⟨#[100, 101, 110, 115, 101]⟩, .string ⟨#[99, 111, 117, 110, 116]⟩, .string ⟨#[115, 117, 109]⟩, .string ⟨#[109, 105, 110]⟩, .string ⟨#[109, 97, 120]⟩, .string ⟨#[102, 105, 114, 115, 116]⟩, .string ⟨#[108, 97, 115, 116]⟩] 9 (0, 0))
  xb : W.heap[bx]? = some (.cells #[.string tk, .int .i64 (x.kind : Int), .int .i64 (x.a : Int), .int .i64 (x.b : Int)] 98 (0, 0))
  fd : FD W bf s a
  lm : LM W sg sv L
  but : But (fun k => k = bf) w W
theorem FS.below {w W W2 : World} {sg sv : Value} {L : LN} {bf : Nat} {s : ByteArray} {a bw bx : Nat} {tk : ByteArray} {x : Fx} (h : FS w W sg sv L bf s a bw bx tk x) (hb : Below W.heap.size W W2) : FS w W2 sg sv L bf s a bw bx tk x :=
  ⟨(hb.block _ (Array.getElem?_eq_some_iff.1 h.lb).1).trans h.lb, (hb.block _ (Array.getElem?_eq_some_iff.1 h.wb).1).trans h.wb, (hb.block _ (Array.getElem?_eq_some_iff.1 h.xb).1).trans h.xb, h.fd.below hb, h.lm.below hb, h.but.of hb⟩
theorem FS.cells {w W : World} {sg sv : Value} {L : LN} {bf : Nat} {s : ByteArray} {a bw bx : Nat} {tk : ByteArray} {x : Fx} (h : FS w W sg sv L bf s a bw bx tk x) : W.cell? ⟨w.heap.size, 0, none⟩ = some sg ∧ W.cell? ⟨w.heap.size, 1, none⟩ = some sv ∧ W.cell? ⟨bx, 0, none⟩ = some (.string tk) ∧ W.cell? ⟨bx, 1, none⟩ = some (.int .i64 (x.kind : Int)) ∧ W.cell? ⟨bx, 2, none⟩ = some (.int .i64 (x.a : Int)) ∧ W.cell? ⟨bx, 3, none⟩ = some (.int .i64 (x.b : Int)) :=
  ⟨cell_of_heap h.lb 0, cell_of_heap h.lb 1, cell_of_heap h.xb 0, cell_of_heap h.xb 1, cell_of_heap h.xb 2, cell_of_heap h.xb 3⟩
/-- what a value's making comes to -/
def VPost (L : LN) (k n : Nat) (x : Fx) (i : Nat) (w : World) (e : Ending) (w' : World) : Prop := e = .returned (.agg #[.bool (Pk.valK L k n x i).isSome, .int .i64 ((Pk.valK L k n x i).getD 0)]) ∧ Below w.heap.size w w'
theorem val_alone {w : World} {sg sv : Value} {L : LN} (hL : LM w sg sv L) {i kd : Nat} (hi : i < L.length) (h3 : kd < 3) (n : Nat) (x : Fx) :
    Calls Tryz.prog 42 #[.agg #[sg, sv], .string ⟨(wordK kd).toArray⟩, .int .i64 (i : Int)] w fun e w' => VPost L kd n x i w e w' :=
  (kalone_any hL hi h3 n x (wordK kd) (by unfold wordK; rw [if_pos h3])).mono (fun e w' h => ⟨by rw [h.1, vv_ag], h.2⟩)
theorem val_total {w : World} {sg sv : Value} {L : LN} (hL : LM w sg sv L) (t : ByteArray) (x : Fx) (hk : x.kind < 5) (ha : x.a < 4) (hb : x.b < 4) {i kd : Nat} (hi : i < L.length) (h3 : 3 ≤ kd) (h9 : kd < 9) (n : Nat) :
    Calls Tryz.prog 43 #[.agg #[sg, sv], .string ⟨(wordK kd).toArray⟩, .agg #[.string t, .int .i64 (x.kind : Int), .int .i64 (x.a : Int), .int .i64 (x.b : Int)], .int .i64 (i : Int)] w fun e w' => VPost L kd n x i w e w' :=
  (ktotal_any hL t x hk ha hb hi h3 h9 ⟨(wordK kd).toArray⟩ (by unfold wordK; rw [if_neg (by omega)])).mono (fun e w' h => ⟨by
    have e2 : Pk.valK L kd n x i = Pk.totK kd (Pk.inV L x i L.length) := by unfold Pk.valK; rw [if_neg (by omega), if_neg (by omega), if_neg (by omega), if_pos h9]
    rw [h.1, vv_ag, e2], h.2⟩)
theorem kval_tile {w : World} {sg sv : Value} {L : LN} (hL : LM w sg sv L) {i n k : Nat} (hi : i < L.length) (hn : n < 5) (x : Fx) (hk : k = 9) :
    Calls Tryz.prog 44 #[.agg #[sg, sv], .int .i64 (i : Int), .int .i64 ((n : Int) + 1)] w fun e w' => VPost L k n x i w e w' :=
  (ktile_any hL hi hn).mono (fun e w' h => ⟨by
    subst hk
    have e2 : Pk.valK L 9 n x i = some ((Pk.tileN L.length i (n + 1) : Nat) : Int) := rfl
    rw [h.1, vv_ag, e2], h.2⟩)
theorem kval_lag {w : World} {sg sv : Value} {L : LN} (hL : LM w sg sv L) {i n k : Nat} (hi : i < L.length) (hn : n < 5) (x : Fx) (hk : k = 10) :
    Calls Tryz.prog 45 #[.agg #[sg, sv], .int .i64 (i : Int), .int .i64 (-(n : Int))] w fun e w' => VPost L k n x i w e w' :=
  (kshift_any hL hi (-(n : Int)) (by omega) (by omega)).mono (fun e w' h => ⟨by
    subst hk
    have e2 : Pk.valK L 10 n x i = Pk.shiftK L i (-(n : Int)) := rfl
    rw [h.1, vv_ag, e2], h.2⟩)
theorem kval_lead {w : World} {sg sv : Value} {L : LN} (hL : LM w sg sv L) {i n k : Nat} (hi : i < L.length) (hn : n < 5) (x : Fx) (hk : k = 11) :
    Calls Tryz.prog 45 #[.agg #[sg, sv], .int .i64 (i : Int), .int .i64 (n : Int)] w fun e w' => VPost L k n x i w e w' :=
  (kshift_any hL hi (n : Int) (by omega) (by omega)).mono (fun e w' h => ⟨by
    subst hk
    have e2 : Pk.valK L 11 n x i = Pk.shiftK L i n := rfl
    rw [h.1, vv_ag, e2], h.2⟩)
theorem set20K {W : World} {b : Nat} {v0 v1 : Value} {T : Nat} (h : W.heap[b]? = some (.cells #[v0, v1] T (0, 0))) (y : Value) : (W.setCell ⟨b, 0, none⟩ y).heap[b]? = some (.cells #[y, v1] T (0, 0)) := by
  simp [World.setCell, Array.getElem?_modify, h]
/-- behind the store of a value -/
structure ST (w5 W : World) (i : Nat) (o6 : Value) (cur : List Pv.Val) (hv : Nat) (v : Pv.Val) : Prop where
  bl : Below w5.heap.size w5 W
  own : W.ownsRow w5.heap.size 52 2 o6 i (rvals cur)
  blk : W.heap[hv]? = some (.cells #[.bool v.isSome, .int .i64 (v.getD 0)] 52 (0, 0))
theorem ST.of {w5 wr w6 w7 : World} {i : Nat} {o6 : Value} {cur : List Pv.Val} {v : Pv.Val} (hb : Below w5.heap.size w5 wr) (ho : wr.ownsRow w5.heap.size 52 2 o6 i (rvals cur)) (h6 : w6 = wr.alloc (.cells #[.bool false, .int .i64 0] 52)) (h7 : Below w6.heap.size w6 w7) : Blk w7 wr.heap.size #[.bool false, .int .i64 0] 52 ∧ ST w5 ((w7.setCell ⟨wr.heap.size, 0, none⟩ (.bool v.isSome)).setCell ⟨wr.heap.size, 1, none⟩ (.int .i64 (v.getD 0))) i o6 cur wr.heap.size v := by
  subst h6
  have b6 : Below wr.heap.size wr (wr.alloc (.cells #[.bool false, .int .i64 0] 52)) := (Below.refl _ _).alloc (Nat.le_refl _) _
  have hs6 : (wr.alloc (.cells #[.bool false, .int .i64 0] 52)).heap.size = wr.heap.size + 1 := by simp
  have k7 : w7.heap[wr.heap.size]? = some (.cells #[.bool false, .int .i64 0] 52 (0, 0)) := (h7.block _ (by omega)).trans (heap_alloc_new wr _)
  have b7 : Below wr.heap.size wr w7 := b6.trans (h7.mono (by omega))
  have o7 := own_below ho b7
  refine ⟨k7, ?_, ?_, ?_⟩
  · have hz := hb.size
    exact ((hb.trans (b7.mono hb.size)).setCell (p := ⟨wr.heap.size, 0, none⟩) hz _).setCell (p := ⟨wr.heap.size, 1, none⟩) hz _
  · exact own_set_far (own_set_far o7 (fun k hk e => by have := (own_at ho hk).2; omega)) (fun k hk e => by have := (own_at ho hk).2; omega)
  · exact set21 (set20K k7 _) _
def KFuPost (w : World) (bf : Nat) (s : ByteArray) (L : LN) (e : Ending) (w' : World) : Prop :=
  ∃ (k n : Nat) (x : Fx) (tk : ByteArray) (y : Option Addr) (c a2 : Nat), e = .returned (.tuple #[.string tk, .slice y L.length c]) ∧ FuOk k n x ∧ tk.data.toList = Pq.fnTxt (Pk.fnOf k n x) ∧ RdV w' (.slice y L.length c) (valsK L k n x L.length) ∧ FD w' bf s a2 ∧ But (fun k => k = bf) w w'
theorem txt_alone {k : Nat} (n : Nat) (x : Fx) (h : k < 3) : (⟨(wordK k).toArray⟩ : ByteArray).data.toList = Pq.fnTxt (Pk.fnOf k n x) := by
  unfold wordK Pk.fnOf
  rw [if_pos h, if_pos h]
  unfold Pq.fnTxt
  rw [if_pos h]
theorem txt_total {k : Nat} (n : Nat) {x : Fx} {tk : ByteArray} (h3 : 3 ≤ k) (h9 : k < 9) (ht : tk.data.toList = Pq.frameTxt (Pk.frmOf x)) : ((⟨(wordK k).toArray⟩ : ByteArray) ++ ⟨#[40, 118, 44, 32]⟩ ++ tk ++ ⟨#[41]⟩).data.toList = Pq.fnTxt (Pk.fnOf k n x) := by
  unfold wordK Pk.fnOf
  rw [if_neg (by omega), if_neg (by omega), if_pos h9]
  unfold Pq.fnTxt
  rw [if_neg (by show ¬ k + 3 < 3; omega), if_neg (by show ¬ k + 3 = 3; omega), if_neg (by show ¬ k + 3 < 6; omega)]
  simp [ht, Pq.wOpen, Pq.wComma, Pq.wClose, Pq.colTxt]
theorem txt_tile (n : Nat) (x : Fx) : ((⟨#[116, 105, 108, 101, 40]⟩ : ByteArray) ++ ⟨(Pq.numTxt ((n : Int) + 1)).toArray⟩ ++ ⟨#[41]⟩).data.toList = Pq.fnTxt (Pk.fnOf 9 n x) := by
  have e : Pk.fnOf 9 n x = ⟨3, 0, ((n + 1 : Nat) : Int), Pq.fr0⟩ := rfl
  rw [e]
  simp [Pq.fnTxt, Pq.wOpen, Pq.wClose, Pq.kindTxt]
theorem txt_lag (n : Nat) (x : Fx) : ((⟨#[108, 97, 103, 40, 118, 44, 32]⟩ : ByteArray) ++ ⟨(Pq.numTxt (n : Int)).toArray⟩ ++ ⟨#[41]⟩).data.toList = Pq.fnTxt (Pk.fnOf 10 n x) := by
  have e : Pk.fnOf 10 n x = ⟨4, 2, n, Pq.fr0⟩ := rfl
  rw [e]
  simp [Pq.fnTxt, Pq.wOpen, Pq.wClose, Pq.wComma, Pq.colTxt, Pq.kindTxt]
theorem txt_lead (n : Nat) (x : Fx) : ((⟨#[108, 101, 97, 100, 40, 118, 44, 32]⟩ : ByteArray) ++ ⟨(Pq.numTxt (n : Int)).toArray⟩ ++ ⟨#[41]⟩).data.toList = Pq.fnTxt (Pk.fnOf 11 n x) := by
  have e : Pk.fnOf 11 n x = ⟨5, 2, n, Pq.fr0⟩ := rfl
  rw [e]
  simp [Pq.fnTxt, Pq.wOpen, Pq.wClose, Pq.wComma, Pq.colTxt, Pq.kindTxt]
set_option maxRecDepth 100000 in
set_option maxHeartbeats 8000000 in
theorem kfun_any {w : World} {sg sv : Value} {L : LN} {bf a : Nat} {s : ByteArray} (hL : LM w sg sv L) (hf : FD w bf s a) :
    Calls Tryz.prog 15 #[lv sg sv, .pointer (some ⟨bf, 0, none⟩)] w fun e w' => KFuPost w bf s L e w' := by
  obtain ⟨i0, hi0, hz0, hz1, hz2⟩ := info_parts infoVal
  obtain ⟨ag, cg, rfl⟩ := RdG.sl hL.rg
  obtain ⟨av, cv, rfl⟩ := RdG.sl hL.rv
  have HLM := hide hL
  have H := hide hf
  have hbl := hf.lt
  have hl := hL.ok.len
  clear hL hf
  unfold lv
  go_enter Tryz.func15, Tryz.ntmps15
  go_upto_region 2 with fail
  have C0 := hide (K1.start w #[.slice ag L.length cg, .slice av L.length cv] 27)
  generalize w.alloc (.cells #[.slice ag L.length cg, .slice av L.length cv] 27) = w0 at *
  have F0 := hide (H.out.below C0.out.bl)
  have hs0 := C0.out.size
  go_wp2_with fail
  refine (fnext3 F0.out 12 12 rfl (by omega) (by omega)).mono ?_
  rintro e w1 ⟨rfl, f1, b1⟩
  have F1 := hide f1
  have U1 := hide b1
  have n1 := Pk.nxt_lt s.data.toList a 12 (by omega)
  generalize adv s.data.toList a = a1 at *
  generalize nxt s.data.toList a 12 = k at *
  clear f1 b1
  go_wp2_with fail
  refine (fnext3 F1.out 5 5 rfl (by omega) (by omega)).mono ?_
  rintro e w2 ⟨rfl, f2, b2⟩
  have F2 := hide f2
  have U2 := hide (U1.out.same b2)
  have n2 := Pk.nxt_lt s.data.toList a1 5 (by omega)
  generalize adv s.data.toList a1 = a2 at *
  generalize nxt s.data.toList a1 5 = n at *
  clear f2 b2 U1 F1
  have lp := Pq.numTxt_len (n : Int)
  have lq := Pq.numTxt_len ((n : Int) + 1)
  go_wp2_with fail
  refine (itoa_any (n : Int) (by omega) (by omega) _).mono ?_
  rintro e w' ⟨rfl, rfl⟩
  go_upto_region 6 with fail
  have D3 := hide (heap_alloc_new w2 (.cells #[.string ⟨#[110, 117, 109, 98, 101, 114]⟩, .string ⟨#[114, 97, 110, 107]⟩, .string ⟨#[100, 101, 110, 115, 101]⟩, .string ⟨#[99, 111, 117, 110, 116]⟩, .string ⟨#[115, 117, 109]⟩, .string ⟨#[109, 105, 110]⟩, .string ⟨#[109, 97, 120]⟩, .string ⟨#[102, 105, 114, 115, 116]⟩, .string ⟨#[108, 97, 115, 116]⟩] 9))
  have b3 := hide ((Below.refl w2.heap.size w2).alloc (Nat.le_refl _) (.cells #[.string ⟨#[110, 117, 109, 98, 101, 114]⟩, .string ⟨#[114, 97, 110, 107]⟩, .string ⟨#[100, 101, 110, 115, 101]⟩, .string ⟨#[99, 111, 117, 110, 116]⟩, .string ⟨#[115, 117, 109]⟩, .string ⟨#[109, 105, 110]⟩, .string ⟨#[109, 97, 120]⟩, .string ⟨#[102, 105, 114, 115, 116]⟩, .string ⟨#[108, 97, 115, 116]⟩] 9))
  have hs2 := U2.out.size
  generalize w2.alloc (.cells #[.string ⟨#[110, 117, 109, 98, 101, 114]⟩, .string ⟨#[114, 97, 110, 107]⟩, .string ⟨#[100, 101, 110, 115, 101]⟩, .string ⟨#[99, 111, 117, 110, 116]⟩, .string ⟨#[115, 117, 109]⟩, .string ⟨#[109, 105, 110]⟩, .string ⟨#[109, 97, 120]⟩, .string ⟨#[102, 105, 114, 115, 116]⟩, .string ⟨#[108, 97, 115, 116]⟩] 9) = w3 at *
  have F3 := hide (F2.out.below b3.out)
  have U3 := hide (U2.out.of b3.out)
  have hb3 : w2.heap.size < w3.heap.size := (Array.getElem?_eq_some_iff.1 D3.out).1
  generalize w2.heap.size = bw at *
  go_wp2_with fail
  refine (kframe_any F3.out).mono ?_
  rintro e w4 ⟨x, tk, a4, rfl, hxk, hxa, hxb, htk, f4, b4⟩
  unfold fv
  have HTK := hide htk
  have U4 := hide (U3.out.same b4)
  have D4 := hide ((b4.block bw hb3 (by omega)).trans D3.out)
  have F4 := hide f4
  have hs4 : w3.heap.size ≤ w4.heap.size := b4.size
  have htl : tk.size ≤ 20 := by
    have h1 := Pq.frameTxt_len (Pk.frmOf x)
    rw [← htk] at h1
    simpa using h1
  clear htk f4 b4 U3 F3 D3 b3 U2 F2
  go_upto_region 7 with fail
  have D5 := hide (heap_alloc_new w4 (.cells #[.string tk, .int .i64 (x.kind : Int), .int .i64 (x.a : Int), .int .i64 (x.b : Int)] 98))
  have b5 := hide ((Below.refl w4.heap.size w4).alloc (Nat.le_refl _) (.cells #[.string tk, .int .i64 (x.kind : Int), .int .i64 (x.a : Int), .int .i64 (x.b : Int)] 98))
  generalize w4.alloc (.cells #[.string tk, .int .i64 (x.kind : Int), .int .i64 (x.a : Int), .int .i64 (x.b : Int)] 98) = w5 at *
  have S5 : Hid (FS w w5 (.slice ag L.length cg) (.slice av L.length cv) L bf s a4 bw w4.heap.size tk x) := by
    have u5 := U4.out.of b5.out
    have u6 : But (fun k => k = bf) w w5 := (But.ofB C0.out.bl).same u5
    exact ⟨(u5.block _ hs0 (by omega)).trans C0.out.a, (b5.out.block _ (Array.getElem?_eq_some_iff.1 D4.out).1).trans D4.out, D5.out, F4.out.below b5.out, (HLM.out.but H.out u6), u6⟩
  have FU : Hid (FuOk k n x) := ⟨n1, n2, hxk, hxa, hxb⟩
  clear D5 b5 U4 D4 F4 hs4 hb3 hs2 F0 C0 H HLM hs0
  generalize w4.heap.size = bx at *
  go_wp2
  go_loopw [6, 13] (fun o6 i13 wr => ∃ i : Nat, i ≤ L.length ∧ i13 = .int .i64 i ∧ (∃ x n c, o6 = .slice x n c) ∧ Hid (Below w5.heap.size w5 wr) ∧ Hid (wr.ownsRow w5.heap.size 52 2 o6 i (rvals (valsK L k n x i)))) (fun _ i _ => L.length - (intOf i).toNat)
  case atStart => exact ⟨0, by omega, rfl, ⟨_, _, _, rfl⟩, Below.refl _ _, World.ownsRow_nil _ _ _ _⟩
  case round =>
    obtain ⟨i, hi, rfl, ⟨xo, no, co, rfl⟩, B1, O1⟩ := hrel
    have S6 := hide (S5.out.below B1.out)
    obtain ⟨q0, q1, q2, q3, q4, q5⟩ := S6.out.cells
    by_cases hlt : i < L.length
    · have hlt' : (i : Int) < (L.length : Int) := by omega
      have HVS := hide (valsK_succ L k n x i)
      generalize hcur : valsK L k n x i = cur at *
      clear hcur
      go_upto_region 13 with fail
      have b6 := hide ((Below.refl wr.heap.size wr).alloc (Nat.le_refl _) (.cells #[.bool false, .int .i64 0] 52))
      generalize h6 : wr.alloc (.cells #[.bool false, .int .i64 0] 52) = w6 at *
      have H6 := hide h6.symm
      have S7 := hide (S6.out.below b6.out)
      clear h6 q0 q1 q2 q3 q4 q5
      obtain ⟨q0, q1, q2, q3, q4, q5⟩ := S7.out.cells
      have hs1 := B1.out.size
      by_cases h3 : k < 3
      · have h3' : (k : Int) < 3 := by omega
        have wk := word9 S7.out.wb (k := k) (by omega)
        go_upto_region 14 with fail
        have h9n : k < 9 := by omega
        have h9m : (k : Int) < 9 := by omega
        have H3 := hide h3
        clear h3 h3'
        go_still_tail 6, (by kernel_rfl)
        go_wp2_with fail
        refine (val_alone (S7.out.lm.below (below_drew0 _)) hlt H3.out n x).mono ?_
        rintro e w7 ⟨rfl, e7⟩
        replace e7 := undrew e7
        obtain ⟨hblk7, st⟩ := ST.of (v := Pk.valK L k n x i) B1.out O1.out H6.out e7
        have ST8 := hide st
        have r0 := hblk7.cell 0
        have r1 := hblk7.cell 1
        have f0 := free_of_heap hblk7 0
        have f1 := free_of_heap hblk7 1
        clear st e7 wk q0 q1 q2 q3 q4 q5
        generalize Pk.valK L k n x i = val at *
        go_upto_region 21 with fail
        clear r0 r1 f0 f1 hblk7
        generalize (w7.setCell ⟨wr.heap.size, 0, none⟩ (.bool val.isSome)).setCell ⟨wr.heap.size, 1, none⟩ (.int .i64 (val.getD 0)) = w8 at *
        have d0 : w8.cell? ⟨wr.heap.size, 0, none⟩ = some (.bool val.isSome) := cell_of_heap ST8.out.blk 0
        have d1 : w8.cell? ⟨wr.heap.size, 1, none⟩ = some (.int .i64 (val.getD 0)) := cell_of_heap ST8.out.blk 1
        have hs8 := ST8.out.bl.size
        go_wp2_with (at_builtin; refine wpList_append_own_at _ rfl (.tmp 73) (.tmp 75) 34 rfl w5.heap.size 52 i0 _ 2 16 Tryz.underlying34 hi0 hz0 hz1 hz2 rfl (by decide) _ i (rvals cur) rfl (ST8.out.own.alloc _) _ 1 1 (vc val) rfl rfl (World.news_of_block (heap_alloc_new _ _)) (vc_one val) (by unfold maxLen; omega) (by omega) (by simp; omega) ?_; intro v9 w9 hown9 hgrow9 hnil9 hat9; have B9 := hide ((ST8.out.bl.alloc hs8 _).grown hgrow9 (by simp; omega) (fun k hk => (ST8.out.own.lt k hk).1)); have O9 := hide hown9; have HF9 := hide (own_sl hown9); clear hown9 hgrow9 hnil9 hat9)
        go_roundw
        case rel =>
          refine ⟨i + 1, by omega, by go_num, HF9.out, B9, ?_⟩
          rw [HVS.out, rvals_snoc]
          exact O9
        case measure => simp [intOf]; omega
      · have h3' : ¬ (k : Int) < 3 := by omega
        by_cases h9 : k < 9
        · have h9' : (k : Int) < 9 := by omega
          have wk := word9 S7.out.wb (k := k) (by omega)
          go_upto_region 16 with fail
          go_still_tail 7, (by kernel_rfl)
          go_wp2_with fail
          refine (val_total (S7.out.lm.below (below_drew0 _)) tk x hxk hxa hxb hlt (by omega) h9 n).mono ?_
          rintro e w7 ⟨rfl, e7⟩
          replace e7 := undrew e7
          obtain ⟨hblk7, st⟩ := ST.of (v := Pk.valK L k n x i) B1.out O1.out H6.out e7
          have ST8 := hide st
          have r0 := hblk7.cell 0
          have r1 := hblk7.cell 1
          have f0 := free_of_heap hblk7 0
          have f1 := free_of_heap hblk7 1
          clear st e7 wk q0 q1 q2 q3 q4 q5
          generalize Pk.valK L k n x i = val at *
          go_upto_region 21 with fail
          clear r0 r1 f0 f1 hblk7
          generalize (w7.setCell ⟨wr.heap.size, 0, none⟩ (.bool val.isSome)).setCell ⟨wr.heap.size, 1, none⟩ (.int .i64 (val.getD 0)) = w8 at *
          have d0 : w8.cell? ⟨wr.heap.size, 0, none⟩ = some (.bool val.isSome) := cell_of_heap ST8.out.blk 0
          have d1 : w8.cell? ⟨wr.heap.size, 1, none⟩ = some (.int .i64 (val.getD 0)) := cell_of_heap ST8.out.blk 1
          have hs8 := ST8.out.bl.size
          go_wp2_with (at_builtin; refine wpList_append_own_at _ rfl (.tmp 73) (.tmp 75) 34 rfl w5.heap.size 52 i0 _ 2 16 Tryz.underlying34 hi0 hz0 hz1 hz2 rfl (by decide) _ i (rvals cur) rfl (ST8.out.own.alloc _) _ 1 1 (vc val) rfl rfl (World.news_of_block (heap_alloc_new _ _)) (vc_one val) (by unfold maxLen; omega) (by omega) (by simp; omega) ?_; intro v9 w9 hown9 hgrow9 hnil9 hat9; have B9 := hide ((ST8.out.bl.alloc hs8 _).grown hgrow9 (by simp; omega) (fun k hk => (ST8.out.own.lt k hk).1)); have O9 := hide hown9; have HF9 := hide (own_sl hown9); clear hown9 hgrow9 hnil9 hat9)
          go_roundw
          case rel =>
            refine ⟨i + 1, by omega, by go_num, HF9.out, B9, ?_⟩
            rw [HVS.out, rvals_snoc]
            exact O9
          case measure => simp [intOf]; omega
        · have h9' : ¬ (k : Int) < 9 := by omega
          have hor : k = 9 ∨ k = 10 ∨ k = 11 := by omega
          rcases hor with hk | hk | hk
          · have HK := hide hk
            have e9 : ((k : Int) == 9) = true := by rw [beq_iff_eq]; omega
            clear hk
            go_wp2_with fail
            refine (kval_tile S7.out.lm hlt n2 x HK.out).mono ?_
            rintro e w7 ⟨rfl, e7⟩
            obtain ⟨hblk7, st⟩ := ST.of (v := Pk.valK L k n x i) B1.out O1.out H6.out e7
            have ST8 := hide st
            have r0 := hblk7.cell 0
            have r1 := hblk7.cell 1
            have f0 := free_of_heap hblk7 0
            have f1 := free_of_heap hblk7 1
            clear st e7 q0 q1 q2 q3 q4 q5
            generalize Pk.valK L k n x i = val at *
            go_upto_region 21 with fail
            clear r0 r1 f0 f1 hblk7
            generalize (w7.setCell ⟨wr.heap.size, 0, none⟩ (.bool val.isSome)).setCell ⟨wr.heap.size, 1, none⟩ (.int .i64 (val.getD 0)) = w8 at *
            have d0 : w8.cell? ⟨wr.heap.size, 0, none⟩ = some (.bool val.isSome) := cell_of_heap ST8.out.blk 0
            have d1 : w8.cell? ⟨wr.heap.size, 1, none⟩ = some (.int .i64 (val.getD 0)) := cell_of_heap ST8.out.blk 1
            have hs8 := ST8.out.bl.size
            go_wp2_with (at_builtin; refine wpList_append_own_at _ rfl (.tmp 73) (.tmp 75) 34 rfl w5.heap.size 52 i0 _ 2 16 Tryz.underlying34 hi0 hz0 hz1 hz2 rfl (by decide) _ i (rvals cur) rfl (ST8.out.own.alloc _) _ 1 1 (vc val) rfl rfl (World.news_of_block (heap_alloc_new _ _)) (vc_one val) (by unfold maxLen; omega) (by omega) (by simp; omega) ?_; intro v9 w9 hown9 hgrow9 hnil9 hat9; have B9 := hide ((ST8.out.bl.alloc hs8 _).grown hgrow9 (by simp; omega) (fun k hk => (ST8.out.own.lt k hk).1)); have O9 := hide hown9; have HF9 := hide (own_sl hown9); clear hown9 hgrow9 hnil9 hat9)
            go_roundw
            case rel =>
              refine ⟨i + 1, by omega, by go_num, HF9.out, B9, ?_⟩
              rw [HVS.out, rvals_snoc]
              exact O9
            case measure => simp [intOf]; omega
          · have HK := hide hk
            have e9 : ((k : Int) == 9) = false := by rw [beq_eq_false_iff_ne]; omega
            have e10 : ((k : Int) == 10) = true := by rw [beq_iff_eq]; omega
            clear hk
            go_wp2_with fail
            refine (kval_lag S7.out.lm hlt n2 x HK.out).mono ?_
            rintro e w7 ⟨rfl, e7⟩
            obtain ⟨hblk7, st⟩ := ST.of (v := Pk.valK L k n x i) B1.out O1.out H6.out e7
            have ST8 := hide st
            have r0 := hblk7.cell 0
            have r1 := hblk7.cell 1
            have f0 := free_of_heap hblk7 0
            have f1 := free_of_heap hblk7 1
            clear st e7 q0 q1 q2 q3 q4 q5
            generalize Pk.valK L k n x i = val at *
            go_upto_region 21 with fail
            clear r0 r1 f0 f1 hblk7
            generalize (w7.setCell ⟨wr.heap.size, 0, none⟩ (.bool val.isSome)).setCell ⟨wr.heap.size, 1, none⟩ (.int .i64 (val.getD 0)) = w8 at *
            have d0 : w8.cell? ⟨wr.heap.size, 0, none⟩ = some (.bool val.isSome) := cell_of_heap ST8.out.blk 0
            have d1 : w8.cell? ⟨wr.heap.size, 1, none⟩ = some (.int .i64 (val.getD 0)) := cell_of_heap ST8.out.blk 1
            have hs8 := ST8.out.bl.size
            go_wp2_with (at_builtin; refine wpList_append_own_at _ rfl (.tmp 73) (.tmp 75) 34 rfl w5.heap.size 52 i0 _ 2 16 Tryz.underlying34 hi0 hz0 hz1 hz2 rfl (by decide) _ i (rvals cur) rfl (ST8.out.own.alloc _) _ 1 1 (vc val) rfl rfl (World.news_of_block (heap_alloc_new _ _)) (vc_one val) (by unfold maxLen; omega) (by omega) (by simp; omega) ?_; intro v9 w9 hown9 hgrow9 hnil9 hat9; have B9 := hide ((ST8.out.bl.alloc hs8 _).grown hgrow9 (by simp; omega) (fun k hk => (ST8.out.own.lt k hk).1)); have O9 := hide hown9; have HF9 := hide (own_sl hown9); clear hown9 hgrow9 hnil9 hat9)
            go_roundw
            case rel =>
              refine ⟨i + 1, by omega, by go_num, HF9.out, B9, ?_⟩
              rw [HVS.out, rvals_snoc]
              exact O9
            case measure => simp [intOf]; omega
          · have HK := hide hk
            have e9 : ((k : Int) == 9) = false := by rw [beq_eq_false_iff_ne]; omega
            have e10 : ((k : Int) == 10) = false := by rw [beq_eq_false_iff_ne]; omega
            clear hk
            go_wp2_with fail
            refine (kval_lead S7.out.lm hlt n2 x HK.out).mono ?_
            rintro e w7 ⟨rfl, e7⟩
            obtain ⟨hblk7, st⟩ := ST.of (v := Pk.valK L k n x i) B1.out O1.out H6.out e7
            have ST8 := hide st
            have r0 := hblk7.cell 0
            have r1 := hblk7.cell 1
            have f0 := free_of_heap hblk7 0
            have f1 := free_of_heap hblk7 1
            clear st e7 q0 q1 q2 q3 q4 q5
            generalize Pk.valK L k n x i = val at *
            go_upto_region 21 with fail
            clear r0 r1 f0 f1 hblk7
            generalize (w7.setCell ⟨wr.heap.size, 0, none⟩ (.bool val.isSome)).setCell ⟨wr.heap.size, 1, none⟩ (.int .i64 (val.getD 0)) = w8 at *
            have d0 : w8.cell? ⟨wr.heap.size, 0, none⟩ = some (.bool val.isSome) := cell_of_heap ST8.out.blk 0
            have d1 : w8.cell? ⟨wr.heap.size, 1, none⟩ = some (.int .i64 (val.getD 0)) := cell_of_heap ST8.out.blk 1
            have hs8 := ST8.out.bl.size
            go_wp2_with (at_builtin; refine wpList_append_own_at _ rfl (.tmp 73) (.tmp 75) 34 rfl w5.heap.size 52 i0 _ 2 16 Tryz.underlying34 hi0 hz0 hz1 hz2 rfl (by decide) _ i (rvals cur) rfl (ST8.out.own.alloc _) _ 1 1 (vc val) rfl rfl (World.news_of_block (heap_alloc_new _ _)) (vc_one val) (by unfold maxLen; omega) (by omega) (by simp; omega) ?_; intro v9 w9 hown9 hgrow9 hnil9 hat9; have B9 := hide ((ST8.out.bl.alloc hs8 _).grown hgrow9 (by simp; omega) (fun k hk => (ST8.out.own.lt k hk).1)); have O9 := hide hown9; have HF9 := hide (own_sl hown9); clear hown9 hgrow9 hnil9 hat9)
            go_roundw
            case rel =>
              refine ⟨i + 1, by omega, by go_num, HF9.out, B9, ?_⟩
              rw [HVS.out, rvals_snoc]
              exact O9
            case measure => simp [intOf]; omega
    · have hlt' : ¬ (i : Int) < (L.length : Int) := by omega
      obtain rfl : i = L.length := by omega
      have HRV : Hid (RdV wr (.slice xo no co) (valsK L k n x L.length)) := RdV.ofOwn O1.out
      obtain rfl : no = L.length := by have := RdG.len HRV.out; rw [this, valsK_len]
      have HFD := hide S6.out.fd
      have HBU := hide S6.out.but
      by_cases h3 : k < 3
      · have h3' : (k : Int) < 3 := by omega
        have wk := word9 S6.out.wb (k := k) (by omega)
        have HX := hide (txt_alone n x h3)
        go_wp2
        go_ret2
        exact ⟨k, n, x, _, _, _, a4, rfl, FU.out, HX.out, HRV.out, HFD.out, HBU.out⟩
      · have h3' : ¬ (k : Int) < 3 := by omega
        by_cases h9 : k < 9
        · have h9' : (k : Int) < 9 := by omega
          have wk := word9 S6.out.wb (k := k) (by omega)
          have hwl := wordK_len k
          have HX := hide (txt_total n (by omega) h9 HTK.out)
          go_wp2
          go_quiet (fail)
          go_wp2
          go_ret2
          refine ⟨k, n, x, _, _, _, a4, rfl, FU.out, HX.out, ?_, ?_, ?_⟩
          · exact HRV.out.below (below_drewM (Below.refl _ _) _)
          · exact HFD.out.below (below_drewM (Below.refl _ _) _)
          · exact HBU.out.of (below_drewM (Below.refl _ _) _)
        · have h9' : ¬ (k : Int) < 9 := by omega
          have hor : k = 9 ∨ k = 10 ∨ k = 11 := by omega
          rcases hor with rfl | rfl | rfl
          · have HX := hide (txt_tile n x)
            go_wp2_with fail
            refine (itoa_any ((n : Int) + 1) (by omega) (by omega) _).mono ?_
            rintro e w' ⟨rfl, rfl⟩
            go_wp2
            go_ret2
            exact ⟨9, n, x, _, _, _, a4, rfl, FU.out, HX.out, HRV.out, HFD.out, HBU.out⟩
          · have HX := hide (txt_lag n x)
            go_wp2
            go_ret2
            exact ⟨10, n, x, _, _, _, a4, rfl, FU.out, HX.out, HRV.out, HFD.out, HBU.out⟩
          · have HX := hide (txt_lead n x)
            go_wp2
            go_ret2
            exact ⟨11, n, x, _, _, _, a4, rfl, FU.out, HX.out, HRV.out, HFD.out, HBU.out⟩
end Go.Proofs.YtcoofnhdbejnpaaGreatDoor

