/- Package lines: the small functions: Of, has, cut, some, none, tileOf, edge. -/
import Derived.Test.YtcoofnhdbejnpabGreatDoorG20
import Derived.Test.YtcoofnhdbejnpabGreatDoorG03
namespace Go.Proofs.YtcoofnhdbejnpabGreatDoor
open Go.RowKit
/-- a line in memory: its two cells, and what they read as -/
structure LnAt (w : World) (g o : Nat) (vk vc : Value) (ks : List (Nat × Bool)) (L : List Pv.R3) : Prop where
  c0 : w.cell? ⟨g, o, none⟩ = some vk
  c1 : w.cell? ⟨g, o + 1, none⟩ = some vc
  rk : RdK w vk ks
  rc : RdR w vc L
theorem LnAt.below {w w' : World} {g o : Nat} {vk vc : Value} {ks : List (Nat × Bool)} {L : List Pv.R3} (h : LnAt w g o vk vc ks L) (hb : Below w.heap.size w w') : LnAt w' g o vk vc ks L :=
  ⟨(hb.cell (p := ⟨g, o, none⟩) (cell_lt h.c0)).trans h.c0, (hb.cell (p := ⟨g, o + 1, none⟩) (cell_lt h.c1)).trans h.c1, h.rk.below hb, h.rc.below hb⟩
set_option maxHeartbeats 400000 in
theorem colOf_any {c : Nat} (hc : c < 3) (p u v : Int) (w : World) : Calls Tryz.prog 178 #[.int .i64 (c : Int), .agg #[.int .i64 p, .int .i64 u, .int .i64 v]] w fun e w' => e = .returned (.int .i64 (Pv.colV c (p, u, v))) ∧ Below w.heap.size w w' := by
  match c, hc with
  | 0, _ =>
    have e : ((0 : Nat) : Int) = 0 := rfl
    rw [e]
    go_enter Tryz.func178, Tryz.ntmps178
    go_wp2
    go_ret
    exact ⟨rfl, (Below.refl _ _).alloc (Nat.le_refl _) _⟩
  | 1, _ =>
    have e : ((1 : Nat) : Int) = 1 := rfl
    rw [e]
    go_enter Tryz.func178, Tryz.ntmps178
    go_wp2
    go_ret
    exact ⟨rfl, (Below.refl _ _).alloc (Nat.le_refl _) _⟩
  | 2, _ =>
    have e : ((2 : Nat) : Int) = 2 := rfl
    rw [e]
    go_enter Tryz.func178, Tryz.ntmps178
    go_wp2
    go_ret
    exact ⟨rfl, (Below.refl _ _).alloc (Nat.le_refl _) _⟩
/-- is there a copy at the position -/
def Pv.hasP (n : Nat) (i : Int) : Bool := decide (1 ≤ i ∧ i ≤ (n : Int))
theorem Pv.hasP_yes {n : Nat} {i : Int} (h : 1 ≤ i ∧ i ≤ (n : Int)) : Pv.hasP n i = true := by simp [Pv.hasP, h]
theorem Pv.hasP_no {n : Nat} {i : Int} (h : ¬ (1 ≤ i ∧ i ≤ (n : Int))) : Pv.hasP n i = false := by unfold Pv.hasP; exact decide_eq_false h
set_option maxHeartbeats 400000 in
theorem has_any {w : World} {g o : Nat} {x : Option Addr} {n c : Nat} (h : w.cell? ⟨g, o + 1, none⟩ = some (.slice x n c)) (i : Int) : Calls Tryz.prog 180 #[.pointer (some ⟨g, o, none⟩), .int .i64 i] w fun e w' => e = .returned (.bool (Pv.hasP n i)) ∧ w' = w := by
  by_cases h1 : 1 ≤ i
  · by_cases h2 : i ≤ (n : Int)
    · have H := hide (Pv.hasP_yes ⟨h1, h2⟩)
      go_enter Tryz.func180, Tryz.ntmps180
      go_wp2
      go_ret
      exact ⟨by rw [H.out]; rfl, rfl⟩
    · have H : Hid (Pv.hasP n i = false) := Pv.hasP_no (by omega)
      go_enter Tryz.func180, Tryz.ntmps180
      go_wp2
      go_ret
      exact ⟨by rw [H.out]; rfl, rfl⟩
  · have H : Hid (Pv.hasP n i = false) := Pv.hasP_no (by omega)
    go_enter Tryz.func180, Tryz.ntmps180
    go_wp2
    go_ret
    exact ⟨by rw [H.out]; rfl, rfl⟩
set_option maxHeartbeats 400000 in
theorem lcut_any {w : World} {g o : Nat} {x : Option Addr} {n c : Nat} (h : w.cell? ⟨g, o + 1, none⟩ = some (.slice x n c)) (a b : Int) : Calls Tryz.prog 116 #[.pointer (some ⟨g, o, none⟩), .int .i64 a, .int .i64 b] w fun e w' => e = .returned (.tuple #[.int .i64 (Pv.cutA a), .int .i64 (Pv.cutB b n)]) ∧ w' = w := by
  have HA : ∀ z, Hid ((if a < 1 then 1 else a) = z → Pv.cutA a = z) := fun z h => h
  have HB : ∀ z, Hid ((if (n : Int) < b then (n : Int) else b) = z → Pv.cutB b n = z) := fun z h => h
  by_cases h1 : a < 1
  · have H1 := hide ((HA 1).out (if_pos h1))
    by_cases h2 : (n : Int) < b
    · have H2 := hide ((HB n).out (if_pos h2))
      go_enter Tryz.func116, Tryz.ntmps116
      go_wp2
      go_ret2
      exact ⟨by rw [H1.out, H2.out]; rfl, rfl⟩
    · have H2 := hide ((HB b).out (if_neg h2))
      go_enter Tryz.func116, Tryz.ntmps116
      go_wp2
      go_ret2
      exact ⟨by rw [H1.out, H2.out]; rfl, rfl⟩
  · have H1 := hide ((HA a).out (if_neg h1))
    by_cases h2 : (n : Int) < b
    · have H2 := hide ((HB n).out (if_pos h2))
      go_enter Tryz.func116, Tryz.ntmps116
      go_wp2
      go_ret2
      exact ⟨by rw [H1.out, H2.out]; rfl, rfl⟩
    · have H2 := hide ((HB b).out (if_neg h2))
      go_enter Tryz.func116, Tryz.ntmps116
      go_wp2
      go_ret2
      exact ⟨by rw [H1.out, H2.out]; rfl, rfl⟩
end Go.Proofs.YtcoofnhdbejnpabGreatDoor

/- Package panesref: groups. -/
namespace Go.Proofs.YtcoofnhdbejnpabGreatDoor
open Go.RowKit
theorem wrap_id {x : Int} (h1 : -4000000000000000000 ≤ x) (h2 : x ≤ 4000000000000000000) : IntKind.i64.wrap x = x := by
  rw [IntKind.wrap_i64]; omega
end Go.Proofs.YtcoofnhdbejnpabGreatDoor

/- Package panesref: total. -/
namespace Go.Proofs.YtcoofnhdbejnpabGreatDoor
open Go.RowKit
/-- a value of an out row -/
def vv (v : Pv.Val) : Value := match v with | none => .agg #[.bool false, .int .i64 0] | some n => .agg #[.bool true, .int .i64 n]
theorem set2 {W : World} {b : Nat} {v0 v1 : Value} {T : Nat} (h : Blk W b #[v0, v1] T) (x y : Value) : ((W.setCell ⟨b, 0, none⟩ x).setCell ⟨b, 1, none⟩ y).cell? ⟨b, 0, none⟩ = some x ∧ ((W.setCell ⟨b, 0, none⟩ x).setCell ⟨b, 1, none⟩ y).cell? ⟨b, 1, none⟩ = some y := by
  have h' : W.heap[b]? = some (.cells #[v0, v1] T (0, 0)) := h
  constructor <;> simp [World.cell?, World.setCell, Array.getElem?_modify, h']
end Go.Proofs.YtcoofnhdbejnpabGreatDoor

/- Out rows: what they read as; panesref's alike. -/
namespace Go.Proofs.YtcoofnhdbejnpabGreatDoor
open Go.RowKit
/-- a value's two cells -/
def vc (v : Pv.Val) : List Value := [.bool v.isSome, .int .i64 (v.getD 0)]
def rvals (l : List Pv.Val) : List Value := l.flatMap vc
theorem rvals_len (l : List Pv.Val) : (rvals l).length = l.length * 2 := by
  induction l with
  | nil => rfl
  | cons c l ih => simp only [rvals, List.flatMap_cons, List.length_append, List.length_cons] at ih ⊢; rw [ih]; simp [vc]; omega
theorem rvals_snoc (l : List Pv.Val) (v : Pv.Val) : rvals (l ++ [v]) = rvals l ++ vc v := by simp [rvals]
theorem rvals_get : ∀ (l : List Pv.Val) (n : Nat) (h : n < l.length), (rvals l)[n * 2]? = some (.bool l[n].isSome) ∧ (rvals l)[n * 2 + 1]? = some (.int .i64 (l[n].getD 0))
  | [], _, h => by simp at h
  | c :: l, 0, _ => by simp [rvals, vc]
  | c :: l, n + 1, h => by
    have ih := rvals_get l n (by simpa using h)
    have e1 : (n + 1) * 2 = n * 2 + 2 := by omega
    simp only [rvals, List.flatMap_cons, List.getElem_cons_succ] at ih ⊢
    have e : (vc c).length = 2 := rfl
    rw [e1, List.getElem?_append_right (by omega), List.getElem?_append_right (by omega), e]
    have a0 : n * 2 + 2 - 2 = n * 2 := by omega
    have a1 : n * 2 + 2 + 1 - 2 = n * 2 + 1 := by omega
    rw [a0, a1]
    exact ih
/-- values can be read behind a slice -/
def RdV (w : World) (v : Value) (l : List Pv.Val) : Prop := RdG 112 2 w v l.length (rvals l)
theorem RdV.below {w w' : World} {v : Value} {l : List Pv.Val} (h : RdV w v l) (hb : Below w.heap.size w w') : RdV w' v l := RdG.below h hb
theorem RdV.cell {w : World} {g off n cap : Nat} {l : List Pv.Val} (h : RdV w (.slice (some ⟨g, off, none⟩) n cap) l) (j : Nat) (hj : j < l.length) : w.cell? ⟨g, off + j * 2, none⟩ = some (.bool l[j].isSome) ∧ w.cell? ⟨g, off + j * 2 + 1, none⟩ = some (.int .i64 (l[j].getD 0)) := by
  obtain ⟨h0, h1⟩ := rvals_get l j hj
  refine ⟨RdG.cell h _ _ h0, ?_⟩
  rw [Nat.add_assoc]; exact RdG.cell h _ _ h1
theorem RdV.ofOwn {w : World} {B n : Nat} {v : Value} {l : List Pv.Val} (h : w.ownsRow B 112 2 v n (rvals l)) : RdV w v l := by
  have hl := h.1
  rw [rvals_len] at hl
  have hn : l.length = n := by omega
  subst hn
  exact RdG.ofOwn h
theorem val_eq {a b : Pv.Val} (h1 : a.isSome = b.isSome) (h2 : a.getD 0 = b.getD 0) : a = b := by
  cases a <;> cases b <;> simp_all
/-- an out row's five cells -/
def oc (o : Pv.Out) (s : Value) : List Value := [.int .i64 o.1.1, .int .i64 o.1.2.1, .int .i64 o.1.2.2, s, .int .i64 o.2.2]
def routs (l : List Pv.Out) (vs : List Value) : List Value := (l.zip vs).flatMap (fun x => oc x.1 x.2)
theorem routs_snoc (l : List Pv.Out) (vs : List Value) (h : vs.length = l.length) (o : Pv.Out) (s : Value) : routs (l ++ [o]) (vs ++ [s]) = routs l vs ++ oc o s := by
  unfold routs
  rw [List.zip_append h.symm]
  simp
theorem routs_get : ∀ (l : List Pv.Out) (vs : List Value) (h : vs.length = l.length) (n : Nat) (hn : n < l.length), (routs l vs)[n * 5]? = some (.int .i64 l[n].1.1) ∧ (routs l vs)[n * 5 + 1]? = some (.int .i64 l[n].1.2.1) ∧ (routs l vs)[n * 5 + 2]? = some (.int .i64 l[n].1.2.2) ∧ (routs l vs)[n * 5 + 3]? = some (vs[n]'(by omega)) ∧ (routs l vs)[n * 5 + 4]? = some (.int .i64 l[n].2.2)
  | [], _, _, _, h => by simp at h
  | o :: l, [], h, _, _ => by simp at h
  | o :: l, s :: vs, h, 0, _ => by simp [routs, oc]
  | o :: l, s :: vs, h, n + 1, hn => by
    have ih := routs_get l vs (by simpa using h) n (by simpa using hn)
    have e1 : (n + 1) * 5 = n * 5 + 5 := by omega
    simp only [routs, List.zip_cons_cons, List.flatMap_cons, List.getElem_cons_succ] at ih ⊢
    have e : (oc o s).length = 5 := rfl
    rw [e1, List.getElem?_append_right (by omega), List.getElem?_append_right (by omega), List.getElem?_append_right (by omega), List.getElem?_append_right (by omega), List.getElem?_append_right (by omega), e]
    have a0 : n * 5 + 5 - 5 = n * 5 := by omega
    have a1 : n * 5 + 5 + 1 - 5 = n * 5 + 1 := by omega
    have a2 : n * 5 + 5 + 2 - 5 = n * 5 + 2 := by omega
    have a3 : n * 5 + 5 + 3 - 5 = n * 5 + 3 := by omega
    have a4 : n * 5 + 5 + 4 - 5 = n * 5 + 4 := by omega
    rw [a0, a1, a2, a3, a4]
    exact ih
/-- the slices of the values read as they must -/
def ValsRd (w : World) (vs : List Value) (l : List Pv.Out) : Prop := vs.length = l.length ∧ ∀ j (h1 : j < vs.length) (h2 : j < l.length), RdV w vs[j] l[j].2.1
theorem ValsRd.below {w w' : World} {vs : List Value} {l : List Pv.Out} (h : ValsRd w vs l) (hb : Below w.heap.size w w') : ValsRd w' vs l := ⟨h.1, fun j h1 h2 => (h.2 j h1 h2).below hb⟩
theorem ValsRd.snoc {w : World} {vs : List Value} {l : List Pv.Out} (h : ValsRd w vs l) {o : Pv.Out} {s : Value} (hs : RdV w s o.2.1) : ValsRd w (vs ++ [s]) (l ++ [o]) := by
  refine ⟨by simp [h.1], fun j h1 h2 => ?_⟩
  rcases Nat.lt_or_ge j vs.length with hj | hj
  · rw [List.getElem_append_left hj, List.getElem_append_left (by rw [← h.1]; exact hj)]
    exact h.2 j hj (by rw [← h.1]; exact hj)
  · have hl := h.1
    have e : j = vs.length := by simp at h1; omega
    subst e
    rw [List.getElem_append_right (Nat.le_refl _), List.getElem_append_right (by omega)]
    simpa using hs
/-- out rows can be read behind a slice -/
def RdO (w : World) (v : Value) (l : List Pv.Out) : Prop := ∃ vs, ValsRd w vs l ∧ RdG 109 5 w v l.length (routs l vs)
theorem RdO.below {w w' : World} {v : Value} {l : List Pv.Out} (h : RdO w v l) (hb : Below w.heap.size w w') : RdO w' v l := by
  obtain ⟨vs, h1, h2⟩ := h
  exact ⟨vs, h1.below hb, h2.below hb⟩
theorem RdO.nil (w : World) : RdO w (.slice none 0 0) [] := ⟨[], ⟨rfl, fun j h => by simp at h⟩, rfl, .inl ⟨rfl, rfl⟩⟩
theorem RdO.form1 {w : World} {v : Value} {l : List Pv.Out} (h : RdO w v l) (h0 : 0 < l.length) : ∃ g off c, v = .slice (some ⟨g, off, none⟩) l.length c ∧ l.length ≤ c := by
  obtain ⟨vs, h1, h2⟩ := h
  exact h2.form1 h0
theorem RdO.sl {w : World} {v : Value} {l : List Pv.Out} (h : RdO w v l) : ∃ a c, v = .slice a l.length c := by
  obtain ⟨vs, h1, h2⟩ := h
  exact h2.sl
/-- the cells of the j-th -/
theorem RdO.cell {w : World} {g off n cap : Nat} {l : List Pv.Out} (h : RdO w (.slice (some ⟨g, off, none⟩) n cap) l) (j : Nat) (hj : j < l.length) : ∃ x c, RdV w (.slice x l[j].2.1.length c) l[j].2.1 ∧ w.cell? ⟨g, off + j * 5, none⟩ = some (.int .i64 l[j].1.1) ∧ w.cell? ⟨g, off + j * 5 + 1, none⟩ = some (.int .i64 l[j].1.2.1) ∧ w.cell? ⟨g, off + j * 5 + 2, none⟩ = some (.int .i64 l[j].1.2.2) ∧ w.cell? ⟨g, off + j * 5 + 3, none⟩ = some (.slice x l[j].2.1.length c) ∧ w.cell? ⟨g, off + j * 5 + 4, none⟩ = some (.int .i64 l[j].2.2) := by
  obtain ⟨vs, hv, hr⟩ := h
  obtain ⟨h0, h1, h2, h3, h4⟩ := routs_get l vs hv.1 j hj
  have hrd := hv.2 j (by rw [hv.1]; exact hj) hj
  obtain ⟨x, c, e⟩ := RdG.sl hrd
  rw [e] at hrd h3
  refine ⟨x, c, hrd, RdG.cell hr _ _ h0, ?_, ?_, ?_, ?_⟩
  · rw [Nat.add_assoc]; exact RdG.cell hr _ _ h1
  · rw [Nat.add_assoc]; exact RdG.cell hr _ _ h2
  · rw [Nat.add_assoc]; exact RdG.cell hr _ _ h3
  · rw [Nat.add_assoc]; exact RdG.cell hr _ _ h4
/-- out rows that the call has made -/
def OwnO (w : World) (B : Nat) (v : Value) (l : List Pv.Out) : Prop := ∃ vs, ValsRd w vs l ∧ w.ownsRow B 109 5 v l.length (routs l vs)
theorem OwnO.rd {w : World} {B : Nat} {v : Value} {l : List Pv.Out} (h : OwnO w B v l) : RdO w v l := by
  obtain ⟨vs, h1, h2⟩ := h
  exact ⟨vs, h1, RdG.ofOwn h2⟩
theorem OwnO.below {w w' : World} {B : Nat} {v : Value} {l : List Pv.Out} (h : OwnO w B v l) (hb : Below w.heap.size w w') : OwnO w' B v l := by
  obtain ⟨vs, h1, h2⟩ := h
  exact ⟨vs, h1.below hb, own_below h2 hb⟩
theorem OwnO.nil (w : World) (B : Nat) : OwnO w B (.slice none 0 0) [] := ⟨[], ⟨rfl, fun j h => by simp at h⟩, World.ownsRow_nil _ _ _ _⟩
theorem infoOut : (Tryz.prog.info? 109).map (fun i => (i.zero, i.size, i.bytes)) = some (some (.agg #[.int .i64 0, .int .i64 0, .int .i64 0, .slice none 0 0, .int .i64 0]), 5, 56) := by kernel_rfl
theorem infoVal : (Tryz.prog.info? 112).map (fun i => (i.zero, i.size, i.bytes)) = some (some (.agg #[.bool false, .int .i64 0]), 2, 16) := by kernel_rfl
end Go.Proofs.YtcoofnhdbejnpabGreatDoor

/- Package lines: some, none, tileOf, edge, columnAt. -/
namespace Go.Proofs.YtcoofnhdbejnpabGreatDoor
open Go.RowKit
theorem lsome_any (n : Int) (w : World) : Calls Tryz.prog 153 #[.int .i64 n] w fun e w' => e = .returned (.agg #[.bool true, .int .i64 n]) ∧ Below w.heap.size w w' := by
  go_enter Tryz.func153, Tryz.ntmps153
  go_wp2
  exact bodyPost_ret (v := .agg #[.bool true, .int .i64 n]) (by simp [results, Tryz.results153, go_sem]) rfl ⟨rfl, ((Below.refl _ _).alloc (Nat.le_refl _) _)⟩
theorem lnone_any (w : World) : Calls Tryz.prog 181 #[] w fun e w' => e = .returned (.agg #[.bool false, .int .i64 0]) ∧ Below w.heap.size w w' := by
  go_enter Tryz.func181, Tryz.ntmps181
  go_wp2
  exact bodyPost_ret (v := .agg #[.bool false, .int .i64 0]) (by simp [results, Tryz.results181, go_sem]) rfl ⟨rfl, ((Below.refl _ _).alloc (Nat.le_refl _) _)⟩
set_option maxHeartbeats 2000000 in
theorem ltile_any (i n m : Int) (w : World) (hi : 1 ≤ i) (hi2 : i ≤ 100000) (hn : 0 ≤ n) (hn2 : n ≤ 100000) (hm : 1 ≤ m) (hm2 : m ≤ 1000) :
    Calls Tryz.prog 156 #[.int .i64 i, .int .i64 n, .int .i64 m] w fun e w' => e = .returned (.int .i64 (Pv.tileP i n m)) ∧ w' = w := by
  have d1 : 0 ≤ n / m := Int.ediv_nonneg hn (by omega)
  have d2 : n / m ≤ 100000 := Int.le_trans (Int.ediv_le_self m hn) hn2
  have r1 : 0 ≤ n % m := Int.emod_nonneg n (by omega)
  have r2 : n % m < m := Int.emod_lt_of_pos n (by omega)
  have hm0 : (m == 0) = false := by simp; omega
  have hn0 : ¬ n < 0 := by omega
  have hm1 : ¬ m < 1 := by omega
  have p1 : 0 ≤ n % m * (n / m + 1) := Int.mul_nonneg r1 (by omega)
  have p2 : n % m * (n / m + 1) ≤ 1000 * 100001 := Int.le_trans (Int.mul_le_mul_of_nonneg_right (c := n / m + 1) (show n % m ≤ 1000 by omega) (by omega)) (Int.mul_le_mul_of_nonneg_left (show n / m + 1 ≤ 100001 by omega) (by omega))
  have HT : ∀ z, Hid ((if n / m = 0 ∨ i ≤ (n % m) * (n / m + 1) then (i - 1) / (n / m + 1) + 1 else n % m + (i - 1 - (n % m) * (n / m + 1)) / (n / m) + 1) = z → Pv.tileP i n m = z) := fun z h => h
  have i1 : 0 ≤ i - 1 := by omega
  have q1 : 0 ≤ (i - 1) / (n / m + 1) := Int.ediv_nonneg i1 (by omega)
  have q2 : (i - 1) / (n / m + 1) ≤ 100000 := Int.le_trans (Int.ediv_le_self _ i1) (by omega)
  have s1 : (n / m + 1 == 0) = false := by simp; omega
  have s2 : 0 ≤ n / m + 1 := by omega
  by_cases h0 : n / m = 0
  · have H := hide ((HT i).out (by rw [if_pos (.inl h0), h0]; simp))
    clear HT
    go_enter Tryz.func156, Tryz.ntmps156
    go_wp2
    go_ret
    exact ⟨by rw [H.out]; rfl, rfl⟩
  · have h0' : (n / m == 0) = false := by simp [h0]
    by_cases h1 : i ≤ n % m * (n / m + 1)
    · have H := hide ((HT _).out (if_pos (.inr h1)))
      clear HT
      go_enter Tryz.func156, Tryz.ntmps156
      go_wp2
      go_ret
      exact ⟨by rw [H.out]; rfl, rfl⟩
    · have H := hide ((HT _).out (if_neg (by omega)))
      have i2 : 0 ≤ i - 1 - n % m * (n / m + 1) := by omega
      have q3 : 0 ≤ (i - 1 - n % m * (n / m + 1)) / (n / m) := Int.ediv_nonneg i2 (by omega)
      have q4 : (i - 1 - n % m * (n / m + 1)) / (n / m) ≤ 100000 := Int.le_trans (Int.ediv_le_self _ i2) (by omega)
      clear HT
      go_enter Tryz.func156, Tryz.ntmps156
      go_wp2
      go_ret
      exact ⟨by rw [H.out]; rfl, rfl⟩
set_option maxHeartbeats 1000000 in
theorem ledge_any {w : World} {g o : Nat} {x : Option Addr} {n c : Nat} (h : w.cell? ⟨g, o + 1, none⟩ = some (.slice x n c)) (e : Pq.Edge) (he : e.kind < 5) (he1 : 0 ≤ e.num) (he2 : e.num ≤ 1000) (i : Int) (hi1 : -100000 ≤ i) (hi2 : i ≤ 100000) :
    Calls Tryz.prog 184 #[.pointer (some ⟨g, o, none⟩), .agg #[.int .i64 (e.kind : Int), .int .i64 e.num], .int .i64 i] w fun r w' => r = .returned (.int .i64 (Pv.edgeP e n i)) ∧ Below w.heap.size w w' := by
  obtain ⟨k, m⟩ := e
  simp only at he he1 he2 ⊢
  have hgl := cell_lt h
  have HC : ∀ ob : Obj, Hid ((w.alloc ob).cell? ⟨g, o + 1, none⟩ = some (.slice x n c)) := fun ob => (((Below.refl w.heap.size w).alloc (Nat.le_refl _) ob).cell (p := ⟨g, o + 1, none⟩) hgl).trans h
  match k, he with
  | 0, _ =>
    have e0 : ((0 : Nat) : Int) = 0 := rfl
    rw [e0]
    go_enter Tryz.func184, Tryz.ntmps184
    go_wp2
    go_ret
    exact ⟨rfl, (Below.refl _ _).alloc (Nat.le_refl _) _⟩
  | 1, _ =>
    have e0 : ((1 : Nat) : Int) = 1 := rfl
    rw [e0]
    have q1 := (HC (.cells #[.int .i64 1, .int .i64 m] 199)).out
    go_enter Tryz.func184, Tryz.ntmps184
    go_wp2
    go_ret
    exact ⟨rfl, (Below.refl _ _).alloc (Nat.le_refl _) _⟩
  | 2, _ =>
    have e0 : ((2 : Nat) : Int) = 2 := rfl
    rw [e0]
    go_enter Tryz.func184, Tryz.ntmps184
    go_wp2
    go_ret
    exact ⟨rfl, (Below.refl _ _).alloc (Nat.le_refl _) _⟩
  | 3, _ =>
    have e0 : ((3 : Nat) : Int) = 3 := rfl
    rw [e0]
    go_enter Tryz.func184, Tryz.ntmps184
    go_wp2
    go_ret
    exact ⟨rfl, (Below.refl _ _).alloc (Nat.le_refl _) _⟩
  | 4, _ =>
    have e0 : ((4 : Nat) : Int) = 4 := rfl
    rw [e0]
    go_enter Tryz.func184, Tryz.ntmps184
    go_wp2
    go_ret
    exact ⟨rfl, (Below.refl _ _).alloc (Nat.le_refl _) _⟩
set_option maxRecDepth 100000 in
set_option maxHeartbeats 1000000 in
theorem lcol_any {w : World} {g o : Nat} {vk vc : Value} {ks : List (Nat × Bool)} {L : List Pv.R3} (h : LnAt w g o vk vc ks L) (hL : L.length ≤ 100000) {c : Nat} (hc : c < 3) (i : Int) (hi1 : -1000000 ≤ i) (hi2 : i ≤ 1000000) :
    Calls Tryz.prog 157 #[.pointer (some ⟨g, o, none⟩), .int .i64 (c : Int), .int .i64 i] w fun e w' => e = .returned (vv (Pv.columnP L c i)) ∧ Below w.heap.size w w' := by
  have HH := hide h
  obtain ⟨xc, cc, rfl⟩ := RdG.sl h.rc
  clear h
  go_enter Tryz.func157, Tryz.ntmps157
  go_upto_region 1 with fail
  have C0 := hide (K1.start w #[.bool false, .int .i64 0] 112)
  generalize w.alloc (.cells #[.bool false, .int .i64 0] 112) = w0 at *
  have H1 := hide (HH.out.below C0.out.bl)
  by_cases hin : 1 ≤ i ∧ i ≤ (L.length : Int)
  · have hia := Pv.hasP_yes hin
    obtain ⟨j, rfl⟩ : ∃ j : Nat, i = (j : Int) + 1 := ⟨(i - 1).toNat, by omega⟩
    have hj : j < L.length := by omega
    have HE : Hid (Pv.columnP L c ((j : Int) + 1) = some (Pv.colV c L[j])) := Pv.columnP_in L c j hj
    obtain ⟨gc, oc, capc, e, _⟩ := RdG.form1 HH.out.rc (by omega)
    cases e
    have q1 := H1.out.c1
    obtain ⟨c0, c1, c2⟩ := H1.out.rc.cell j hj
    have hj' : (j : Int) < (L.length : Int) := by omega
    have hwj : IntKind.i64.wrap (j : Int) = (j : Int) := wrap_id (by omega) (by omega)
    go_wp2_with (go_at_call 180; refine (has_any H1.out.c1 _).mono ?_; rintro e w' ⟨rfl, rfl⟩; simp only [hia])
    refine (colOf_any hc _ _ _ _).mono ?_
    rintro e w3 ⟨rfl, e3⟩
    have C3 := hide (C0.out.below e3)
    clear e3 q1 c0 c1 c2
    go_wp2_with fail
    refine (lsome_any _ _).mono ?_
    rintro e w4 ⟨rfl, e4⟩
    have C4 := hide (C3.out.below e4)
    clear e4
    have z0 : w4.cell? ⟨w.heap.size, 0, none⟩ = some (.bool false) := cell_of_heap C4.out.a 0
    have z1 : w4.cell? ⟨w.heap.size, 1, none⟩ = some (.int .i64 0) := cell_of_heap C4.out.a 1
    have f0 := free_of_heap C4.out.a 0
    have f1 := free_of_heap C4.out.a 1
    obtain ⟨l0, l1⟩ := set2 C4.out.a (.bool true) (.int .i64 (Pv.colV c (L[j].1, L[j].2.1, L[j].2.2)))
    go_wp2
    refine bodyPost_ret (v := .agg #[.bool true, .int .i64 (Pv.colV c (L[j].1, L[j].2.1, L[j].2.2))]) (by simp [results, Tryz.results157, go_sem, l0, l1]) rfl ⟨by rw [HE.out]; rfl, ?_⟩
    exact (C4.out.bl.setCell (p := ⟨w.heap.size, 0, none⟩) (Nat.le_refl _) _).setCell (p := ⟨w.heap.size, 1, none⟩) (Nat.le_refl _) _
  · have hia := Pv.hasP_no hin
    have HE : Hid (Pv.columnP L c i = none) := by show _ = _; unfold Pv.columnP; rw [if_pos (by omega)]
    go_wp2_with (go_at_call 180; refine (has_any H1.out.c1 _).mono ?_; rintro e w' ⟨rfl, rfl⟩; simp only [hia])
    refine (lnone_any _).mono ?_
    rintro e w4 ⟨rfl, e4⟩
    have C4 := hide (C0.out.below e4)
    clear e4
    have z0 : w4.cell? ⟨w.heap.size, 0, none⟩ = some (.bool false) := cell_of_heap C4.out.a 0
    have z1 : w4.cell? ⟨w.heap.size, 1, none⟩ = some (.int .i64 0) := cell_of_heap C4.out.a 1
    have f0 := free_of_heap C4.out.a 0
    have f1 := free_of_heap C4.out.a 1
    obtain ⟨l0, l1⟩ := set2 C4.out.a (.bool false) (.int .i64 0)
    go_wp2
    refine bodyPost_ret (v := .agg #[.bool false, .int .i64 0]) (by simp [results, Tryz.results157, go_sem, l0, l1]) rfl ⟨by rw [HE.out]; rfl, ?_⟩
    exact (C4.out.bl.setCell (p := ⟨w.heap.size, 0, none⟩) (Nat.le_refl _) _).setCell (p := ⟨w.heap.size, 1, none⟩) (Nat.le_refl _) _
end Go.Proofs.YtcoofnhdbejnpabGreatDoor

