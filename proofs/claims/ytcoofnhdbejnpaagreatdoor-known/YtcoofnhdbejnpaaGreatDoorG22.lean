/- Package panesref: groups. -/
import Derived.Test.YtcoofnhdbejnpaaGreatDoorG03
import Derived.Test.YtcoofnhdbejnpaaGreatDoorG21
import Derived.Test.YtcoofnhdbejnpaaGreatDoorG09
import Derived.Test.YtcoofnhdbejnpaaGreatDoorG01
import Derived.Test.YtcoofnhdbejnpaaGreatDoorG13
import Derived.Test.YtcoofnhdbejnpaaGreatDoorG06
import Derived.Test.YtcoofnhdbejnpaaGreatDoorG14
import Derived.Test.YtcoofnhdbejnpaaGreatDoorG16
import Derived.Test.YtcoofnhdbejnpaaGreatDoorG12
namespace Go.Proofs.YtcoofnhdbejnpaaGreatDoor
open Go.RowKit
theorem RdP.form1 {w : World} {v : Value} {l : List Pv.Cpy} (h : RdP w v l) (h0 : 0 < l.length) : ∃ g off c, v = .slice (some ⟨g, off, none⟩) l.length c ∧ l.length ≤ c := RdG.form1 h h0
theorem wrap_id {x : Int} (h1 : -4000000000000000000 ≤ x) (h2 : x ≤ 4000000000000000000) : IntKind.i64.wrap x = x := by
  rw [IntKind.wrap_i64]; omega
end Go.Proofs.YtcoofnhdbejnpaaGreatDoor

/- Package panesref: total. -/
namespace Go.Proofs.YtcoofnhdbejnpaaGreatDoor
open Go.RowKit
/-- a value of an out row -/
def vv (v : Pv.Val) : Value := match v with | none => .agg #[.bool false, .int .i64 0] | some n => .agg #[.bool true, .int .i64 n]
theorem set2 {W : World} {b : Nat} {v0 v1 : Value} {T : Nat} (h : Blk W b #[v0, v1] T) (x y : Value) : ((W.setCell ⟨b, 0, none⟩ x).setCell ⟨b, 1, none⟩ y).cell? ⟨b, 0, none⟩ = some x ∧ ((W.setCell ⟨b, 0, none⟩ x).setCell ⟨b, 1, none⟩ y).cell? ⟨b, 1, none⟩ = some y := by
  have h' : W.heap[b]? = some (.cells #[v0, v1] T (0, 0)) := h
  constructor <;> simp [World.cell?, World.setCell, Array.getElem?_modify, h']
end Go.Proofs.YtcoofnhdbejnpaaGreatDoor

/- Out rows: what they read as; panesref's alike. -/
namespace Go.Proofs.YtcoofnhdbejnpaaGreatDoor
open Go.RowKit
/-- a value's two cells -/
def vc (v : Pv.Val) : List Value := [.bool v.isSome, .int .i64 (v.getD 0)]
def rvals (l : List Pv.Val) : List Value := l.flatMap vc
theorem rvals_len (l : List Pv.Val) : (rvals l).length = l.length * 2 := by
  induction l with
  | nil => rfl
  | cons c l ih => simp only [rvals, List.flatMap_cons, List.length_append, List.length_cons] at ih ⊢; rw [ih]; simp [vc]; omega
theorem rvals_snoc (l : List Pv.Val) (v : Pv.Val) : rvals (l ++ [v]) = rvals l ++ vc v := by simp [rvals]
theorem rvals_get : ∀ (l : List Pv.Val) (n : Nat) (h : n < l.length), (rvals l)[n * 2]? = some (.bool l[n].isSome) ∧ (rvals l)[n * 2 + 1]? = some (.int .i64 (l[n].getD 0))
  | [], _, h => by simp at h
  | c :: l, 0, _ => by simp [rvals, vc]
  | c :: l, n + 1, h => by
    have ih := rvals_get l n (by simpa using h)
    have e1 : (n + 1) * 2 = n * 2 + 2 := by omega
    simp only [rvals, List.flatMap_cons, List.getElem_cons_succ] at ih ⊢
    have e : (vc c).length = 2 := rfl
    rw [e1, List.getElem?_append_right (by omega), List.getElem?_append_right (by omega), e]
    have a0 : n * 2 + 2 - 2 = n * 2 := by omega
    have a1 : n * 2 + 2 + 1 - 2 = n * 2 + 1 := by omega
    rw [a0, a1]
    exact ih
/-- values can be read behind a slice -/
def RdV (w : World) (v : Value) (l : List Pv.Val) : Prop := RdG 52 2 w v l.length (rvals l)
theorem RdV.below {w w' : World} {v : Value} {l : List Pv.Val} (h : RdV w v l) (hb : Below w.heap.size w w') : RdV w' v l := RdG.below h hb
theorem RdV.cell {w : World} {g off n cap : Nat} {l : List Pv.Val} (h : RdV w (.slice (some ⟨g, off, none⟩) n cap) l) (j : Nat) (hj : j < l.length) : w.cell? ⟨g, off + j * 2, none⟩ = some (.bool l[j].isSome) ∧ w.cell? ⟨g, off + j * 2 + 1, none⟩ = some (.int .i64 (l[j].getD 0)) := by
  obtain ⟨h0, h1⟩ := rvals_get l j hj
  refine ⟨RdG.cell h _ _ h0, ?_⟩
  rw [Nat.add_assoc]; exact RdG.cell h _ _ h1
theorem RdV.ofOwn {w : World} {B n : Nat} {v : Value} {l : List Pv.Val} (h : w.ownsRow B 52 2 v n (rvals l)) : RdV w v l := by
  have hl := h.1
  rw [rvals_len] at hl
  have hn : l.length = n := by omega
  subst hn
  exact RdG.ofOwn h
theorem val_eq {a b : Pv.Val} (h1 : a.isSome = b.isSome) (h2 : a.getD 0 = b.getD 0) : a = b := by
  cases a <;> cases b <;> simp_all
/-- an out row's five cells -/
def oc (o : Pv.Out) (s : Value) : List Value := [.int .i64 o.1.1, .int .i64 o.1.2.1, .int .i64 o.1.2.2, s, .int .i64 o.2.2]
def routs (l : List Pv.Out) (vs : List Value) : List Value := (l.zip vs).flatMap (fun x => oc x.1 x.2)
theorem routs_len : ∀ (l : List Pv.Out) (vs : List Value), vs.length = l.length → (routs l vs).length = l.length * 5
  | [], _, _ => rfl
  | o :: l, [], h => by simp at h
  | o :: l, s :: vs, h => by
    have ih := routs_len l vs (by simpa using h)
    simp only [routs, List.zip_cons_cons, List.flatMap_cons, List.length_append, List.length_cons] at ih ⊢
    rw [ih]; simp [oc]; omega
theorem routs_snoc (l : List Pv.Out) (vs : List Value) (h : vs.length = l.length) (o : Pv.Out) (s : Value) : routs (l ++ [o]) (vs ++ [s]) = routs l vs ++ oc o s := by
  unfold routs
  rw [List.zip_append h.symm]
  simp
theorem routs_get : ∀ (l : List Pv.Out) (vs : List Value) (h : vs.length = l.length) (n : Nat) (hn : n < l.length), (routs l vs)[n * 5]? = some (.int .i64 l[n].1.1) ∧ (routs l vs)[n * 5 + 1]? = some (.int .i64 l[n].1.2.1) ∧ (routs l vs)[n * 5 + 2]? = some (.int .i64 l[n].1.2.2) ∧ (routs l vs)[n * 5 + 3]? = some (vs[n]'(by omega)) ∧ (routs l vs)[n * 5 + 4]? = some (.int .i64 l[n].2.2)
  | [], _, _, _, h => by simp at h
  | o :: l, [], h, _, _ => by simp at h
  | o :: l, s :: vs, h, 0, _ => by simp [routs, oc]
  | o :: l, s :: vs, h, n + 1, hn => by
    have ih := routs_get l vs (by simpa using h) n (by simpa using hn)
    have e1 : (n + 1) * 5 = n * 5 + 5 := by omega
    simp only [routs, List.zip_cons_cons, List.flatMap_cons, List.getElem_cons_succ] at ih ⊢
    have e : (oc o s).length = 5 := rfl
    rw [e1, List.getElem?_append_right (by omega), List.getElem?_append_right (by omega), List.getElem?_append_right (by omega), List.getElem?_append_right (by omega), List.getElem?_append_right (by omega), e]
    have a0 : n * 5 + 5 - 5 = n * 5 := by omega
    have a1 : n * 5 + 5 + 1 - 5 = n * 5 + 1 := by omega
    have a2 : n * 5 + 5 + 2 - 5 = n * 5 + 2 := by omega
    have a3 : n * 5 + 5 + 3 - 5 = n * 5 + 3 := by omega
    have a4 : n * 5 + 5 + 4 - 5 = n * 5 + 4 := by omega
    rw [a0, a1, a2, a3, a4]
    exact ih
/-- the slices of the values read as they must -/
def ValsRd (w : World) (vs : List Value) (l : List Pv.Out) : Prop := vs.length = l.length ∧ ∀ j (h1 : j < vs.length) (h2 : j < l.length), RdV w vs[j] l[j].2.1
theorem ValsRd.below {w w' : World} {vs : List Value} {l : List Pv.Out} (h : ValsRd w vs l) (hb : Below w.heap.size w w') : ValsRd w' vs l := ⟨h.1, fun j h1 h2 => (h.2 j h1 h2).below hb⟩
theorem ValsRd.snoc {w : World} {vs : List Value} {l : List Pv.Out} (h : ValsRd w vs l) {o : Pv.Out} {s : Value} (hs : RdV w s o.2.1) : ValsRd w (vs ++ [s]) (l ++ [o]) := by
  refine ⟨by simp [h.1], fun j h1 h2 => ?_⟩
  rcases Nat.lt_or_ge j vs.length with hj | hj
  · rw [List.getElem_append_left hj, List.getElem_append_left (by rw [← h.1]; exact hj)]
    exact h.2 j hj (by rw [← h.1]; exact hj)
  · have hl := h.1
    have e : j = vs.length := by simp at h1; omega
    subst e
    rw [List.getElem_append_right (Nat.le_refl _), List.getElem_append_right (by omega)]
    simpa using hs
/-- out rows can be read behind a slice -/
def RdO (w : World) (v : Value) (l : List Pv.Out) : Prop := ∃ vs, ValsRd w vs l ∧ RdG 55 5 w v l.length (routs l vs)
theorem RdO.below {w w' : World} {v : Value} {l : List Pv.Out} (h : RdO w v l) (hb : Below w.heap.size w w') : RdO w' v l := by
  obtain ⟨vs, h1, h2⟩ := h
  exact ⟨vs, h1.below hb, h2.below hb⟩
theorem RdO.nil (w : World) : RdO w (.slice none 0 0) [] := ⟨[], ⟨rfl, fun j h => by simp at h⟩, rfl, .inl ⟨rfl, rfl⟩⟩
theorem RdO.form1 {w : World} {v : Value} {l : List Pv.Out} (h : RdO w v l) (h0 : 0 < l.length) : ∃ g off c, v = .slice (some ⟨g, off, none⟩) l.length c ∧ l.length ≤ c := by
  obtain ⟨vs, h1, h2⟩ := h
  exact h2.form1 h0
theorem RdO.sl {w : World} {v : Value} {l : List Pv.Out} (h : RdO w v l) : ∃ a c, v = .slice a l.length c := by
  obtain ⟨vs, h1, h2⟩ := h
  exact h2.sl
/-- the cells of the j-th -/
theorem RdO.cell {w : World} {g off n cap : Nat} {l : List Pv.Out} (h : RdO w (.slice (some ⟨g, off, none⟩) n cap) l) (j : Nat) (hj : j < l.length) : ∃ x c, RdV w (.slice x l[j].2.1.length c) l[j].2.1 ∧ w.cell? ⟨g, off + j * 5, none⟩ = some (.int .i64 l[j].1.1) ∧ w.cell? ⟨g, off + j * 5 + 1, none⟩ = some (.int .i64 l[j].1.2.1) ∧ w.cell? ⟨g, off + j * 5 + 2, none⟩ = some (.int .i64 l[j].1.2.2) ∧ w.cell? ⟨g, off + j * 5 + 3, none⟩ = some (.slice x l[j].2.1.length c) ∧ w.cell? ⟨g, off + j * 5 + 4, none⟩ = some (.int .i64 l[j].2.2) := by
  obtain ⟨vs, hv, hr⟩ := h
  obtain ⟨h0, h1, h2, h3, h4⟩ := routs_get l vs hv.1 j hj
  have hrd := hv.2 j (by rw [hv.1]; exact hj) hj
  obtain ⟨x, c, e⟩ := RdG.sl hrd
  rw [e] at hrd h3
  refine ⟨x, c, hrd, RdG.cell hr _ _ h0, ?_, ?_, ?_, ?_⟩
  · rw [Nat.add_assoc]; exact RdG.cell hr _ _ h1
  · rw [Nat.add_assoc]; exact RdG.cell hr _ _ h2
  · rw [Nat.add_assoc]; exact RdG.cell hr _ _ h3
  · rw [Nat.add_assoc]; exact RdG.cell hr _ _ h4
/-- out rows that the call has made -/
def OwnO (w : World) (B : Nat) (v : Value) (l : List Pv.Out) : Prop := ∃ vs, ValsRd w vs l ∧ w.ownsRow B 55 5 v l.length (routs l vs)
theorem OwnO.rd {w : World} {B : Nat} {v : Value} {l : List Pv.Out} (h : OwnO w B v l) : RdO w v l := by
  obtain ⟨vs, h1, h2⟩ := h
  exact ⟨vs, h1, RdG.ofOwn h2⟩
theorem OwnO.below {w w' : World} {B : Nat} {v : Value} {l : List Pv.Out} (h : OwnO w B v l) (hb : Below w.heap.size w w') : OwnO w' B v l := by
  obtain ⟨vs, h1, h2⟩ := h
  exact ⟨vs, h1.below hb, own_below h2 hb⟩
theorem OwnO.nil (w : World) (B : Nat) : OwnO w B (.slice none 0 0) [] := ⟨[], ⟨rfl, fun j h => by simp at h⟩, World.ownsRow_nil _ _ _ _⟩
theorem infoOut : (Tryz.prog.info? 55).map (fun i => (i.zero, i.size, i.bytes)) = some (some (.agg #[.int .i64 0, .int .i64 0, .int .i64 0, .slice none 0 0, .int .i64 0]), 5, 56) := by kernel_rfl
theorem infoVal : (Tryz.prog.info? 52).map (fun i => (i.zero, i.size, i.bytes)) = some (some (.agg #[.bool false, .int .i64 0]), 2, 16) := by kernel_rfl
end Go.Proofs.YtcoofnhdbejnpaaGreatDoor

/- Package paneskeep: a line in memory; some, in. -/
namespace Go.Proofs.YtcoofnhdbejnpaaGreatDoor
open Go.RowKit
open Pk (LN Fx gAt vAt LineOk)
def gCells (L : LN) : List Value := L.map (fun x => Value.int .i64 x.1)
def vCells (L : LN) : List Value := L.map (fun x => Value.int .i64 x.2)
/-- a line in memory -/
structure LM (w : World) (sg sv : Value) (L : LN) : Prop where
  rg : RdG 3 1 w sg L.length (gCells L)
  rv : RdG 3 1 w sv L.length (vCells L)
  ok : LineOk L
theorem LM.below {w w' : World} {sg sv : Value} {L : LN} (h : LM w sg sv L) (hb : Below w.heap.size w w') : LM w' sg sv L := ⟨h.rg.below hb, h.rv.below hb, h.ok⟩
theorem LM.g {w : World} {g off n cap : Nat} {sv : Value} {L : LN} (h : LM w (.slice (some ⟨g, off, none⟩) n cap) sv L) {i : Nat} (hi : i < L.length) : w.cell? ⟨g, off + i, none⟩ = some (.int .i64 (gAt L i)) := by
  refine RdG.cell h.rg _ _ ?_
  unfold gCells
  rw [List.getElem?_map, List.getElem?_eq_getElem hi, Pk.gAt_eq hi]; rfl
theorem LM.v {w : World} {g off n cap : Nat} {sg : Value} {L : LN} (h : LM w sg (.slice (some ⟨g, off, none⟩) n cap) L) {i : Nat} (hi : i < L.length) : w.cell? ⟨g, off + i, none⟩ = some (.int .i64 (vAt L i)) := by
  refine RdG.cell h.rv _ _ ?_
  unfold vCells
  rw [List.getElem?_map, List.getElem?_eq_getElem hi, Pk.vAt_eq hi]; rfl
/-- a line as a value -/
def lv (sg sv : Value) : Value := .agg #[sg, sv]
/-- a frame as a value -/
def fv (t : ByteArray) (x : Fx) : Value := .agg #[.string t, .int .i64 (x.kind : Int), .int .i64 (x.a : Int), .int .i64 (x.b : Int)]
set_option maxHeartbeats 400000 in
theorem ksome_any (n : Int) (w : World) : Calls Tryz.prog 72 #[.int .i64 n] w fun e w' => e = .returned (.agg #[.bool true, .int .i64 n]) ∧ Below w.heap.size w w' := by
  go_enter Tryz.func72, Tryz.ntmps72
  go_wp2
  exact bodyPost_ret (v := .agg #[.bool true, .int .i64 n]) (by simp [results, Tryz.results72, go_sem]) rfl ⟨rfl, ((Below.refl _ _).alloc (Nat.le_refl _) _)⟩
set_option maxRecDepth 100000 in
set_option maxHeartbeats 2000000 in
theorem kin_any {w : World} {sg sv : Value} {L : LN} (hL : LM w sg sv L) (t : ByteArray) (x : Fx) (hk : x.kind < 5) (ha : x.a < 4) (hb : x.b < 4) {i k : Nat} (hi : i < L.length) (hki : k < L.length) :
    Calls Tryz.prog 73 #[lv sg sv, fv t x, .int .i64 (i : Int), .int .i64 (k : Int)] w fun e w' => e = .returned (.bool (Pk.inK L x i k)) ∧ Below w.heap.size w w' := by
  obtain ⟨g, off, cap, rfl, hcap⟩ := RdG.form1 hL.rg (by omega)
  obtain ⟨av, cv, rfl⟩ := RdG.sl hL.rv
  have HLM := hide hL
  have hl := hL.ok.len
  have hgi := (hL.ok.at hi).1
  have hgk := (hL.ok.at hki).1
  obtain ⟨gi0, gi1⟩ := hgi
  obtain ⟨gk0, gk1⟩ := hgk
  clear hL
  unfold lv fv
  go_enter Tryz.func73, Tryz.ntmps73
  go_upto_region 1 with fail
  have C0 := hide (K2.start w #[.slice (some ⟨g, off, none⟩) L.length cap, .slice av L.length cv] 27 #[.string t, .int .i64 (x.kind : Int), .int .i64 (x.a : Int), .int .i64 (x.b : Int)] 98)
  generalize ((w.alloc (.cells #[.slice (some ⟨g, off, none⟩) L.length cap, .slice av L.length cv] 27)).alloc (.cells #[.string t, .int .i64 (x.kind : Int), .int .i64 (x.a : Int), .int .i64 (x.b : Int)] 98)) = w0 at *
  have q0 : w0.cell? ⟨w.heap.size, 0, none⟩ = some (.slice (some ⟨g, off, none⟩) L.length cap) := cell_of_heap C0.out.a 0
  have f1 : w0.cell? ⟨w.heap.size + 1, 1, none⟩ = some (.int .i64 (x.kind : Int)) := cell_of_heap C0.out.b 1
  have f2 : w0.cell? ⟨w.heap.size + 1, 2, none⟩ = some (.int .i64 (x.a : Int)) := cell_of_heap C0.out.b 2
  have f3 : w0.cell? ⟨w.heap.size + 1, 3, none⟩ = some (.int .i64 (x.b : Int)) := cell_of_heap C0.out.b 3
  have r1 := (HLM.out.below C0.out.bl).g hi
  have r2 := (HLM.out.below C0.out.bl).g hki
  have hi' : (i : Int) < (L.length : Int) := by omega
  have hki' : (k : Int) < (L.length : Int) := by omega
  obtain ⟨kd, a, b⟩ := x
  simp only at hk ha hb f1 f2 f3
  have hkd : kd = 0 ∨ kd = 1 ∨ kd = 2 ∨ kd = 3 ∨ kd = 4 := by omega
  have e0 : Hid (Pk.inK L ⟨0, a, b⟩ i k = true) := rfl
  have e1 : Hid (Pk.inK L ⟨1, a, b⟩ i k = decide (gAt L k - gAt L i ≤ 0)) := rfl
  have e2 : Hid (Pk.inK L ⟨2, a, b⟩ i k = (decide (gAt L k - gAt L i ≤ (a : Int)) && decide (-(gAt L k - gAt L i) ≤ (a : Int)))) := rfl
  have e3 : Hid (Pk.inK L ⟨3, a, b⟩ i k = (decide ((i : Int) - a ≤ k) && decide ((k : Int) ≤ i + b))) := rfl
  have e4 : Hid (Pk.inK L ⟨4, a, b⟩ i k = (decide ((i : Int) + a ≤ k) && decide ((k : Int) ≤ i - b))) := rfl
  generalize gAt L i = gi at *
  generalize gAt L k = gk at *
  rcases hkd with rfl | rfl | rfl | rfl | rfl
  · replace f1 : w0.cell? ⟨w.heap.size + 1, 1, none⟩ = some (.int .i64 0) := f1
    go_quiet (fail)
    go_wp2
    go_ret
    exact ⟨by rw [e0.out]; rfl, below_drewM C0.out.bl _⟩
  · replace f1 : w0.cell? ⟨w.heap.size + 1, 1, none⟩ = some (.int .i64 1) := f1
    go_quiet (fail)
    go_wp2
    go_ret
    exact ⟨by rw [e1.out]; rfl, below_drewM C0.out.bl _⟩
  · replace f1 : w0.cell? ⟨w.heap.size + 1, 1, none⟩ = some (.int .i64 2) := f1
    by_cases h1 : gk - gi ≤ (a : Int)
    · go_quiet (fail)
      go_wp2
      go_ret
      exact ⟨by rw [e2.out, decide_eq_true h1]; rfl, below_drewM C0.out.bl _⟩
    · go_quiet (fail)
      go_wp2
      go_ret
      exact ⟨by rw [e2.out, decide_eq_false (by omega)]; rfl, below_drewM C0.out.bl _⟩
  · replace f1 : w0.cell? ⟨w.heap.size + 1, 1, none⟩ = some (.int .i64 3) := f1
    by_cases h1 : (i : Int) - a ≤ k
    · go_quiet (fail)
      go_wp2
      go_ret
      exact ⟨by rw [e3.out, decide_eq_true h1]; rfl, below_drewM C0.out.bl _⟩
    · go_quiet (fail)
      go_wp2
      go_ret
      exact ⟨by rw [e3.out, decide_eq_false (by omega)]; rfl, below_drewM C0.out.bl _⟩
  · replace f1 : w0.cell? ⟨w.heap.size + 1, 1, none⟩ = some (.int .i64 4) := f1
    by_cases h1 : (i : Int) + a ≤ k
    · go_quiet (fail)
      go_wp2
      go_ret
      exact ⟨by rw [e4.out, decide_eq_true h1]; rfl, below_drewM C0.out.bl _⟩
    · go_quiet (fail)
      go_wp2
      go_ret
      exact ⟨by rw [e4.out, decide_eq_false (by omega)]; rfl, below_drewM C0.out.bl _⟩
end Go.Proofs.YtcoofnhdbejnpaaGreatDoor

/- Small numbers as texts. -/
namespace Go.Proofs.YtcoofnhdbejnpaaGreatDoor
open Go.RowKit
def tbl1 : ByteArray := ⟨#[48, 49, 50, 51, 52, 53, 54, 55, 56, 57, 97, 98, 99, 100, 101, 102, 103, 104, 105, 106, 107, 108, 109, 110, 111, 112, 113, 114, 115, 116, 117, 118, 119, 120, 121, 122]⟩
def tbl2 : ByteArray := ⟨#[48, 48, 48, 49, 48, 50, 48, 51, 48, 52, 48, 53, 48, 54, 48, 55, 48, 56, 48, 57, 49, 48, 49, 49, 49, 50, 49, 51, 49, 52, 49, 53, 49, 54, 49, 55, 49, 56, 49, 57, 50, 48, 50, 49, 50, 50, 50, 51, 50, 52, 50, 53, 50, 54, 50, 55, 50, 56, 50, 57, 51, 48, 51, 49, 51, 50, 51, 51, 51, 52, 51, 53, 51, 54, 51, 55, 51, 56, 51, 57, 52, 48, 52, 49, 52, 50, 52, 51, 52, 52, 52, 53, 52, 54, 52, 55, 52, 56, 52, 57, 53, 48, 53, 49, 53, 50, 53, 51, 53, 52, 53, 53, 53, 54, 53, 55, 53, 56, 53, 57, 54, 48, 54, 49, 54, 50, 54, 51, 54, 52, 54, 53, 54, 54, 54, 55, 54, 56, 54, 57, 55, 48, 55, 49, 55, 50, 55, 51, 55, 52, 55, 53, 55, 54, 55, 55, 55, 56, 55, 57, 56, 48, 56, 49, 56, 50, 56, 51, 56, 52, 56, 53, 56, 54, 56, 55, 56, 56, 56, 57, 57, 48, 57, 49, 57, 50, 57, 51, 57, 52, 57, 53, 57, 54, 57, 55, 57, 56, 57, 57]⟩
theorem bytes_eq {a : ByteArray} {l : List UInt8} (h : a.data.toList = l) : a = ⟨l.toArray⟩ := by
  obtain ⟨⟨x⟩⟩ := a; simp at h; subst h; rfl
set_option maxRecDepth 100000 in
theorem tbl1_all : ∀ m : Fin 10, (tbl1.extract (m : Nat) ((m : Nat) + 1)).data.toList = Pq.numTxt ((m : Nat) : Int) := by decide +kernel
set_option maxRecDepth 100000 in
theorem tbl2_all : ∀ m : Fin 100, 10 ≤ (m : Nat) → (tbl2.extract ((m : Nat) * 2) ((m : Nat) * 2 + 2)).data.toList = Pq.numTxt ((m : Nat) : Int) := by decide +kernel
set_option maxRecDepth 100000 in
set_option maxHeartbeats 400000 in
theorem small_any (n : Nat) (h : n < 100) (w : World) :
    Calls Tryz.prog 117 #[.int .i64 (n : Int)] w fun e w' => e = .returned (.string ⟨(Pq.numTxt n).toArray⟩) ∧ w = w' := by
  by_cases h10 : n < 10
  · go_enter Tryz.func117, Tryz.ntmps117
    go_wp2
    go_ret
    refine ⟨?_, rfl⟩
    exact congrArg (fun x => Ending.returned (Value.string x)) (bytes_eq (a := tbl1.extract n (n + 1)) (tbl1_all ⟨n, h10⟩))
  · go_enter Tryz.func117, Tryz.ntmps117
    go_wp2
    go_ret
    refine ⟨?_, rfl⟩
    exact congrArg (fun x => Ending.returned (Value.string x)) (bytes_eq (a := tbl2.extract (n * 2) (n * 2 + 2)) (tbl2_all ⟨n, h⟩ (by simpa using h10)))
set_option maxHeartbeats 400000 in
theorem itoa_any (n : Int) (h0 : 0 ≤ n) (h : n < 100) (w : World) :
    Calls Tryz.prog 40 #[.int .i64 n] w fun e w' => e = .returned (.string ⟨(Pq.numTxt n).toArray⟩) ∧ w = w' := by
  obtain ⟨k, rfl⟩ := Int.eq_ofNat_of_zero_le h0
  have hk : k < 100 := by omega
  go_enter Tryz.func40, Tryz.ntmps40
  go_wp2_with (first | (go_at_call 117; refine (small_any k hk _).mono ?_; rintro e w' ⟨rfl, rfl⟩) | go_in)
  go_ret
  exact ⟨rfl, rfl⟩
end Go.Proofs.YtcoofnhdbejnpaaGreatDoor

/- Package paneskeep: raw bytes, one after the other; words. -/
namespace Go.Proofs.YtcoofnhdbejnpaaGreatDoor
open Go.RowKit
open Pk (TS nxt adv)
/-- the feed lies in block bf, the text in block bt -/
structure TF (w : World) (bf bt : Nat) (s : ByteArray) (x : TS) : Prop where
  feed : w.heap[bf]? = some (.cells #[.string s, .int .i64 (x.a : Int)] 31 (0, 0))
  text : w.heap[bt]? = some (.cells #[.string ⟨x.raw.toArray⟩, .string ⟨x.plain.toArray⟩] 60 (0, 0))
  le : x.a ≤ s.size
  sz : s.size ≤ maxLen
theorem TF.ne {w : World} {bf bt : Nat} {s : ByteArray} {x : TS} (h : TF w bf bt s x) : bf ≠ bt := by
  intro e; have := h.feed; rw [e, h.text] at this; simp at this
theorem TF.lt {w : World} {bf bt : Nat} {s : ByteArray} {x : TS} (h : TF w bf bt s x) : bf < w.heap.size ∧ bt < w.heap.size :=
  ⟨(Array.getElem?_eq_some_iff.1 h.feed).1, (Array.getElem?_eq_some_iff.1 h.text).1⟩
theorem TF.congr {w w' : World} {bf bt : Nat} {s : ByteArray} {x : TS} (h : TF w bf bt s x) (h1 : w'.heap[bf]? = w.heap[bf]?) (h2 : w'.heap[bt]? = w.heap[bt]?) : TF w' bf bt s x :=
  ⟨by rw [h1]; exact h.feed, by rw [h2]; exact h.text, h.le, h.sz⟩
theorem TF.drewN {w : World} {bf bt : Nat} {s : ByteArray} {x : TS} (h : TF w bf bt s x) (n : Nat) : TF (w.drewN n) bf bt s x := h.congr rfl rfl
theorem TF.drew {w : World} {bf bt : Nat} {s : ByteArray} {x : TS} (h : TF w bf bt s x) : TF w.drew bf bt s x := h.congr rfl rfl
theorem TF.alloc {w : World} {bf bt : Nat} {s : ByteArray} {x : TS} (h : TF w bf bt s x) (o : Obj) : TF (w.alloc o) bf bt s x := h.congr (Below.heap_alloc _ _ _ h.lt.1) (Below.heap_alloc _ _ _ h.lt.2)
theorem TF.is {w : World} {bf bt : Nat} {s : ByteArray} {x y : TS} (h : TF w bf bt s x) (e : x = y) : TF w bf bt s y := e ▸ h
theorem TF.cells {w : World} {bf bt : Nat} {s : ByteArray} {x : TS} (h : TF w bf bt s x) :
    w.cell? ⟨bf, 0, none⟩ = some (.string s) ∧ w.cell? ⟨bf, 1, none⟩ = some (.int .i64 (x.a : Int)) ∧ w.cell? ⟨bt, 0, none⟩ = some (.string ⟨x.raw.toArray⟩) ∧ w.cell? ⟨bt, 1, none⟩ = some (.string ⟨x.plain.toArray⟩) :=
  ⟨cell_of_heap h.feed 0, cell_of_heap h.feed 1, cell_of_heap h.text 0, cell_of_heap h.text 1⟩
/-- blocks bf and bt alone have turned, and new blocks have come -/
structure G2 (bf bt : Nat) (w w' : World) : Prop where
  os : w'.os = w.os
  tape : w'.tape = w.tape
  output : w'.output = w.output
  size : w.heap.size ≤ w'.heap.size
  block : ∀ k, k < w.heap.size → k ≠ bf → k ≠ bt → w'.heap[k]? = w.heap[k]?
theorem G2.refl (bf bt : Nat) (w : World) : G2 bf bt w w := ⟨rfl, rfl, rfl, Nat.le_refl _, fun _ _ _ _ => rfl⟩
theorem G2.trans {bf bt : Nat} {w1 w2 w3 : World} (h : G2 bf bt w1 w2) (k : G2 bf bt w2 w3) : G2 bf bt w1 w3 :=
  ⟨k.os.trans h.os, k.tape.trans h.tape, k.output.trans h.output, Nat.le_trans h.size k.size, fun i hi a b => (k.block i (Nat.lt_of_lt_of_le hi h.size) a b).trans (h.block i hi a b)⟩
theorem G2.drewN {bf bt : Nat} {w w' : World} (h : G2 bf bt w w') (n : Nat) : G2 bf bt w (w'.drewN n) := h.trans ⟨rfl, rfl, rfl, Nat.le_refl _, fun _ _ _ _ => rfl⟩
theorem G2.drew {bf bt : Nat} {w w' : World} (h : G2 bf bt w w') : G2 bf bt w w'.drew := h.trans ⟨rfl, rfl, rfl, Nat.le_refl _, fun _ _ _ _ => rfl⟩
theorem G2.alloc {bf bt : Nat} {w w' : World} (h : G2 bf bt w w') (o : Obj) : G2 bf bt w (w'.alloc o) := h.trans ⟨rfl, rfl, rfl, by simp, fun k hk _ _ => Below.heap_alloc _ _ _ hk⟩
theorem G2.below {bf bt B : Nat} {w w' : World} (h : G2 bf bt w w') (h1 : B ≤ bf) (h2 : B ≤ bt) (hs : bf < w.heap.size) : Below B w w' :=
  ⟨h.os, h.tape, h.output, h.size, fun k hk => h.block k (by omega) (by omega) (by omega)⟩
theorem wrap64_u8 (c : UInt8) : wrap64 (c.toNat : Int) = (c.toNat : Int) := by
  have := c.toNat_lt
  unfold wrap64; omega
end Go.Proofs.YtcoofnhdbejnpaaGreatDoor

/- Package tables: isValue, isAhead, checkChange. -/
namespace Go.Proofs.YtcoofnhdbejnpaaGreatDoor
open Go.RowKit
set_option maxHeartbeats 400000 in
theorem isValue_any (n : Int) (w : World) : Calls Tryz.prog 132 #[.int .i64 n] w fun e w' => e = .returned (.bool (Pv.between n)) ∧ w = w' := by
  have HB : ∀ c, Hid ((-1000 ≤ n ∧ n ≤ 1000 ↔ c = true) → Pv.between n = c) := fun c h => by
    rw [Bool.eq_iff_iff, ← h]; simp [Pv.between]
  by_cases h1 : -1000 ≤ n
  · by_cases h2 : n ≤ 1000
    · have H := hide ((HB true).out (by simp [h1, h2]))
      clear HB
      go_enter Tryz.func132, Tryz.ntmps132
      go_wp2
      go_ret
      exact ⟨by rw [H.out]; rfl, rfl⟩
    · have H := hide ((HB false).out (by simp [h2]))
      clear HB
      go_enter Tryz.func132, Tryz.ntmps132
      go_wp2
      go_ret
      exact ⟨by rw [H.out]; rfl, rfl⟩
  · have H := hide ((HB false).out (by simp; omega))
    clear HB
    go_enter Tryz.func132, Tryz.ntmps132
    go_wp2
    go_ret
    exact ⟨by rw [H.out]; rfl, rfl⟩
set_option maxHeartbeats 1000000 in
theorem isAhead_any (p k v p' k' v' : Int) (w : World) : Calls Tryz.prog 133 #[.agg #[.int .i64 p, .int .i64 k, .int .i64 v], .agg #[.int .i64 p', .int .i64 k', .int .i64 v']] w fun e w' => e = .returned (.bool (Pv.lower (p, k, v) (p', k', v'))) ∧ Below w.heap.size w w' := by
  have HL : ∀ c, Hid (((p < p' ∨ (p = p' ∧ (k < k' ∨ (k = k' ∧ v < v')))) ↔ c = true) → Pv.lower (p, k, v) (p', k', v') = c) := fun c h => by
    rw [Bool.eq_iff_iff, Pv.lower_iff]; exact h
  by_cases h2 : p = p'
  · subst h2
    by_cases h4 : k = k'
    · subst h4
      by_cases h5 : v < v'
      · have HH := hide ((HL true).out (by simp [h5]))
        clear HL
        go_enter Tryz.func133, Tryz.ntmps133
        go_wp2
        go_ret
        rw [HH.out]
        exact ⟨rfl, ((Below.refl _ _).alloc (Nat.le_refl _) _).alloc (by simp) _⟩
      · have HH := hide ((HL false).out (by simp [h5]))
        clear HL
        go_enter Tryz.func133, Tryz.ntmps133
        go_wp2
        go_ret
        rw [HH.out]
        exact ⟨rfl, ((Below.refl _ _).alloc (Nat.le_refl _) _).alloc (by simp) _⟩
    · have b4 : (k != k') = true := by simp [h4]
      by_cases h3 : k < k'
      · have HH := hide ((HL true).out (by simp [h3]))
        clear HL
        go_enter Tryz.func133, Tryz.ntmps133
        go_wp2
        go_ret
        rw [HH.out]
        exact ⟨rfl, ((Below.refl _ _).alloc (Nat.le_refl _) _).alloc (by simp) _⟩
      · have HH := hide ((HL false).out (by simp [h3, h4]))
        clear HL
        go_enter Tryz.func133, Tryz.ntmps133
        go_wp2
        go_ret
        rw [HH.out]
        exact ⟨rfl, ((Below.refl _ _).alloc (Nat.le_refl _) _).alloc (by simp) _⟩
  · have b2 : (p != p') = true := by simp [h2]
    by_cases h1 : p < p'
    · have HH := hide ((HL true).out (by simp [h1]))
      clear HL
      go_enter Tryz.func133, Tryz.ntmps133
      go_wp2
      go_ret
      rw [HH.out]
      exact ⟨rfl, ((Below.refl _ _).alloc (Nat.le_refl _) _).alloc (by simp) _⟩
    · have HH := hide ((HL false).out (by simp [h1, h2]))
      clear HL
      go_enter Tryz.func133, Tryz.ntmps133
      go_wp2
      go_ret
      rw [HH.out]
      exact ⟨rfl, ((Below.refl _ _).alloc (Nat.le_refl _) _).alloc (by simp) _⟩
/-- what checkChange says of a change -/
def Pv.chk (c : Pv.Chg) : Int := if Pv.rowOk c.1 = false then 7 else if Pv.cntOk c.2 = false then 8 else 0
set_option maxHeartbeats 1000000 in
theorem checkChange_any (p k v n : Int) (w : World) : Calls Tryz.prog 97 #[.agg #[.int .i64 p, .int .i64 k, .int .i64 v, .int .i64 n]] w fun e w' => e = .returned (.int .i64 (Pv.chk ((p, k, v), n))) ∧ Below w.heap.size w w' := by
  have HK : Hid (Pv.chk ((p, k, v), n) = if (Pv.between p && (Pv.between k && Pv.between v)) = false then 7 else if Pv.cntOk n = false then 8 else 0) := hide rfl
  cases e1 : Pv.between p with
  | false =>
    have HH := hide (show Pv.chk ((p, k, v), n) = 7 by rw [HK.out, e1]; simp)
    clear HK
    go_enter Tryz.func97, Tryz.ntmps97
    go_wp2_with (go_at_call 132; refine (isValue_any _ _).mono ?_; rintro e w' ⟨rfl, rfl⟩; simp only [e1])
    go_ret
    rw [HH.out]
    exact ⟨rfl, (Below.refl _ _).alloc (Nat.le_refl _) _⟩
  | true =>
    cases e2 : Pv.between k with
    | false =>
      have HH := hide (show Pv.chk ((p, k, v), n) = 7 by rw [HK.out, e1, e2]; simp)
      clear HK
      go_enter Tryz.func97, Tryz.ntmps97
      go_wp2_with (go_at_call 132; refine (isValue_any _ _).mono ?_; rintro e w' ⟨rfl, rfl⟩; simp only [e1, e2])
      go_ret
      rw [HH.out]
      exact ⟨rfl, (Below.refl _ _).alloc (Nat.le_refl _) _⟩
    | true =>
      cases e3 : Pv.between v with
      | false =>
        have HH := hide (show Pv.chk ((p, k, v), n) = 7 by rw [HK.out, e1, e2, e3]; simp)
        clear HK
        go_enter Tryz.func97, Tryz.ntmps97
        go_wp2_with (go_at_call 132; refine (isValue_any _ _).mono ?_; rintro e w' ⟨rfl, rfl⟩; simp only [e1, e2, e3])
        go_ret
        rw [HH.out]
        exact ⟨rfl, (Below.refl _ _).alloc (Nat.le_refl _) _⟩
      | true =>
        cases e4 : Pv.cntOk n with
        | false =>
          have HH := hide (show Pv.chk ((p, k, v), n) = 8 by rw [HK.out, e1, e2, e3, e4]; simp)
          have hc : n = 0 ∨ (n ≠ 0 ∧ 40 < n) ∨ (n ≠ 0 ∧ ¬ 40 < n ∧ n < -40) := by
            have : ¬ (n ≠ 0 ∧ -40 ≤ n ∧ n ≤ 40) := fun h => by rw [(Pv.cnt_iff n).2 h] at e4; cases e4
            omega
          clear HK
          rcases hc with rfl | ⟨h0, h1⟩ | ⟨h0, h1, h2⟩
          · go_enter Tryz.func97, Tryz.ntmps97
            go_wp2_with (go_at_call 132; refine (isValue_any _ _).mono ?_; rintro e w' ⟨rfl, rfl⟩; simp only [e1, e2, e3])
            go_ret
            rw [HH.out]
            exact ⟨rfl, (Below.refl _ _).alloc (Nat.le_refl _) _⟩
          · have b0 : (n == 0) = false := by simp [h0]
            go_enter Tryz.func97, Tryz.ntmps97
            go_wp2_with (go_at_call 132; refine (isValue_any _ _).mono ?_; rintro e w' ⟨rfl, rfl⟩; simp only [e1, e2, e3])
            go_ret
            rw [HH.out]
            exact ⟨rfl, (Below.refl _ _).alloc (Nat.le_refl _) _⟩
          · have b0 : (n == 0) = false := by simp [h0]
            go_enter Tryz.func97, Tryz.ntmps97
            go_wp2_with (go_at_call 132; refine (isValue_any _ _).mono ?_; rintro e w' ⟨rfl, rfl⟩; simp only [e1, e2, e3])
            go_ret
            rw [HH.out]
            exact ⟨rfl, (Below.refl _ _).alloc (Nat.le_refl _) _⟩
        | true =>
          have HH := hide (show Pv.chk ((p, k, v), n) = 0 by rw [HK.out, e1, e2, e3, e4]; simp)
          obtain ⟨h0, h1, h2⟩ := (Pv.cnt_iff n).1 e4
          have b0 : (n == 0) = false := by simp [h0]
          clear HK
          go_enter Tryz.func97, Tryz.ntmps97
          go_wp2_with (go_at_call 132; refine (isValue_any _ _).mono ?_; rintro e w' ⟨rfl, rfl⟩; simp only [e1, e2, e3])
          go_ret
          rw [HH.out]
          exact ⟨rfl, (Below.refl _ _).alloc (Nat.le_refl _) _⟩
end Go.Proofs.YtcoofnhdbejnpaaGreatDoor

