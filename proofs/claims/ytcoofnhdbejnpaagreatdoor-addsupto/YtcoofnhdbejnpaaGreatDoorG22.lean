/- Out rows: what they read as; panesref's alike. -/
import Derived.Test.YtcoofnhdbejnpaaGreatDoorG21
namespace Go.Proofs.YtcoofnhdbejnpaaGreatDoor
open Go.RowKit
/-- a value's two cells -/
def vc (v : Pv.Val) : List Value := [.bool v.isSome, .int .i64 (v.getD 0)]
def rvals (l : List Pv.Val) : List Value := l.flatMap vc
theorem rvals_len (l : List Pv.Val) : (rvals l).length = l.length * 2 := by
  induction l with
  | nil => rfl
  | cons c l ih => simp only [rvals, List.flatMap_cons, List.length_append, List.length_cons] at ih ⊢; rw [ih]; simp [vc]; omega
theorem rvals_snoc (l : List Pv.Val) (v : Pv.Val) : rvals (l ++ [v]) = rvals l ++ vc v := by simp [rvals]
theorem rvals_get : ∀ (l : List Pv.Val) (n : Nat) (h : n < l.length), (rvals l)[n * 2]? = some (.bool l[n].isSome) ∧ (rvals l)[n * 2 + 1]? = some (.int .i64 (l[n].getD 0))
  | [], _, h => by simp at h
  | c :: l, 0, _ => by simp [rvals, vc]
  | c :: l, n + 1, h => by
    have ih := rvals_get l n (by simpa using h)
    have e1 : (n + 1) * 2 = n * 2 + 2 := by omega
    simp only [rvals, List.flatMap_cons, List.getElem_cons_succ] at ih ⊢
    have e : (vc c).length = 2 := rfl
    rw [e1, List.getElem?_append_right (by omega), List.getElem?_append_right (by omega), e]
    have a0 : n * 2 + 2 - 2 = n * 2 := by omega
    have a1 : n * 2 + 2 + 1 - 2 = n * 2 + 1 := by omega
    rw [a0, a1]
    exact ih
/-- values can be read behind a slice -/
def RdV (w : World) (v : Value) (l : List Pv.Val) : Prop := RdG 52 2 w v l.length (rvals l)
theorem RdV.below {w w' : World} {v : Value} {l : List Pv.Val} (h : RdV w v l) (hb : Below w.heap.size w w') : RdV w' v l := RdG.below h hb
theorem RdV.cell {w : World} {g off n cap : Nat} {l : List Pv.Val} (h : RdV w (.slice (some ⟨g, off, none⟩) n cap) l) (j : Nat) (hj : j < l.length) : w.cell? ⟨g, off + j * 2, none⟩ = some (.bool l[j].isSome) ∧ w.cell? ⟨g, off + j * 2 + 1, none⟩ = some (.int .i64 (l[j].getD 0)) := by
  obtain ⟨h0, h1⟩ := rvals_get l j hj
  refine ⟨RdG.cell h _ _ h0, ?_⟩
  rw [Nat.add_assoc]; exact RdG.cell h _ _ h1
theorem RdV.ofOwn {w : World} {B n : Nat} {v : Value} {l : List Pv.Val} (h : w.ownsRow B 52 2 v n (rvals l)) : RdV w v l := by
  have hl := h.1
  rw [rvals_len] at hl
  have hn : l.length = n := by omega
  subst hn
  exact RdG.ofOwn h
theorem val_eq {a b : Pv.Val} (h1 : a.isSome = b.isSome) (h2 : a.getD 0 = b.getD 0) : a = b := by
  cases a <;> cases b <;> simp_all
/-- an out row's five cells -/
def oc (o : Pv.Out) (s : Value) : List Value := [.int .i64 o.1.1, .int .i64 o.1.2.1, .int .i64 o.1.2.2, s, .int .i64 o.2.2]
def routs (l : List Pv.Out) (vs : List Value) : List Value := (l.zip vs).flatMap (fun x => oc x.1 x.2)
theorem routs_snoc (l : List Pv.Out) (vs : List Value) (h : vs.length = l.length) (o : Pv.Out) (s : Value) : routs (l ++ [o]) (vs ++ [s]) = routs l vs ++ oc o s := by
  unfold routs
  rw [List.zip_append h.symm]
  simp
theorem routs_get : ∀ (l : List Pv.Out) (vs : List Value) (h : vs.length = l.length) (n : Nat) (hn : n < l.length), (routs l vs)[n * 5]? = some (.int .i64 l[n].1.1) ∧ (routs l vs)[n * 5 + 1]? = some (.int .i64 l[n].1.2.1) ∧ (routs l vs)[n * 5 + 2]? = some (.int .i64 l[n].1.2.2) ∧ (routs l vs)[n * 5 + 3]? = some (vs[n]'(by omega)) ∧ (routs l vs)[n * 5 + 4]? = some (.int .i64 l[n].2.2)
  | [], _, _, _, h => by simp at h
  | o :: l, [], h, _, _ => by simp at h
  | o :: l, s :: vs, h, 0, _ => by simp [routs, oc]
  | o :: l, s :: vs, h, n + 1, hn => by
    have ih := routs_get l vs (by simpa using h) n (by simpa using hn)
    have e1 : (n + 1) * 5 = n * 5 + 5 := by omega
    simp only [routs, List.zip_cons_cons, List.flatMap_cons, List.getElem_cons_succ] at ih ⊢
    have e : (oc o s).length = 5 := rfl
    rw [e1, List.getElem?_append_right (by omega), List.getElem?_append_right (by omega), List.getElem?_append_right (by omega), List.getElem?_append_right (by omega), List.getElem?_append_right (by omega), e]
    have a0 : n * 5 + 5 - 5 = n * 5 := by omega
    have a1 : n * 5 + 5 + 1 - 5 = n * 5 + 1 := by omega
    have a2 : n * 5 + 5 + 2 - 5 = n * 5 + 2 := by omega
    have a3 : n * 5 + 5 + 3 - 5 = n * 5 + 3 := by omega
    have a4 : n * 5 + 5 + 4 - 5 = n * 5 + 4 := by omega
    rw [a0, a1, a2, a3, a4]
    exact ih
/-- the slices of the values read as they must -/
def ValsRd (w : World) (vs : List Value) (l : List Pv.Out) : Prop := vs.length = l.length ∧ ∀ j (h1 : j < vs.length) (h2 : j < l.length), RdV w vs[j] l[j].2.1
theorem ValsRd.below {w w' : World} {vs : List Value} {l : List Pv.Out} (h : ValsRd w vs l) (hb : Below w.heap.size w w') : ValsRd w' vs l := ⟨h.1, fun j h1 h2 => (h.2 j h1 h2).below hb⟩
theorem ValsRd.snoc {w : World} {vs : List Value} {l : List Pv.Out} (h : ValsRd w vs l) {o : Pv.Out} {s : Value} (hs : RdV w s o.2.1) : ValsRd w (vs ++ [s]) (l ++ [o]) := by
  refine ⟨by simp [h.1], fun j h1 h2 => ?_⟩
  rcases Nat.lt_or_ge j vs.length with hj | hj
  · rw [List.getElem_append_left hj, List.getElem_append_left (by rw [← h.1]; exact hj)]
    exact h.2 j hj (by rw [← h.1]; exact hj)
  · have hl := h.1
    have e : j = vs.length := by simp at h1; omega
    subst e
    rw [List.getElem_append_right (Nat.le_refl _), List.getElem_append_right (by omega)]
    simpa using hs
/-- out rows can be read behind a slice -/
def RdO (w : World) (v : Value) (l : List Pv.Out) : Prop := ∃ vs, ValsRd w vs l ∧ RdG 55 5 w v l.length (routs l vs)
theorem RdO.below {w w' : World} {v : Value} {l : List Pv.Out} (h : RdO w v l) (hb : Below w.heap.size w w') : RdO w' v l := by
  obtain ⟨vs, h1, h2⟩ := h
  exact ⟨vs, h1.below hb, h2.below hb⟩
theorem RdO.nil (w : World) : RdO w (.slice none 0 0) [] := ⟨[], ⟨rfl, fun j h => by simp at h⟩, rfl, .inl ⟨rfl, rfl⟩⟩
theorem RdO.form1 {w : World} {v : Value} {l : List Pv.Out} (h : RdO w v l) (h0 : 0 < l.length) : ∃ g off c, v = .slice (some ⟨g, off, none⟩) l.length c ∧ l.length ≤ c := by
  obtain ⟨vs, h1, h2⟩ := h
  exact h2.form1 h0
theorem RdO.sl {w : World} {v : Value} {l : List Pv.Out} (h : RdO w v l) : ∃ a c, v = .slice a l.length c := by
  obtain ⟨vs, h1, h2⟩ := h
  exact h2.sl
/-- the cells of the j-th -/
theorem RdO.cell {w : World} {g off n cap : Nat} {l : List Pv.Out} (h : RdO w (.slice (some ⟨g, off, none⟩) n cap) l) (j : Nat) (hj : j < l.length) : ∃ x c, RdV w (.slice x l[j].2.1.length c) l[j].2.1 ∧ w.cell? ⟨g, off + j * 5, none⟩ = some (.int .i64 l[j].1.1) ∧ w.cell? ⟨g, off + j * 5 + 1, none⟩ = some (.int .i64 l[j].1.2.1) ∧ w.cell? ⟨g, off + j * 5 + 2, none⟩ = some (.int .i64 l[j].1.2.2) ∧ w.cell? ⟨g, off + j * 5 + 3, none⟩ = some (.slice x l[j].2.1.length c) ∧ w.cell? ⟨g, off + j * 5 + 4, none⟩ = some (.int .i64 l[j].2.2) := by
  obtain ⟨vs, hv, hr⟩ := h
  obtain ⟨h0, h1, h2, h3, h4⟩ := routs_get l vs hv.1 j hj
  have hrd := hv.2 j (by rw [hv.1]; exact hj) hj
  obtain ⟨x, c, e⟩ := RdG.sl hrd
  rw [e] at hrd h3
  refine ⟨x, c, hrd, RdG.cell hr _ _ h0, ?_, ?_, ?_, ?_⟩
  · rw [Nat.add_assoc]; exact RdG.cell hr _ _ h1
  · rw [Nat.add_assoc]; exact RdG.cell hr _ _ h2
  · rw [Nat.add_assoc]; exact RdG.cell hr _ _ h3
  · rw [Nat.add_assoc]; exact RdG.cell hr _ _ h4
/-- out rows that the call has made -/
def OwnO (w : World) (B : Nat) (v : Value) (l : List Pv.Out) : Prop := ∃ vs, ValsRd w vs l ∧ w.ownsRow B 55 5 v l.length (routs l vs)
theorem OwnO.rd {w : World} {B : Nat} {v : Value} {l : List Pv.Out} (h : OwnO w B v l) : RdO w v l := by
  obtain ⟨vs, h1, h2⟩ := h
  exact ⟨vs, h1, RdG.ofOwn h2⟩
theorem OwnO.below {w w' : World} {B : Nat} {v : Value} {l : List Pv.Out} (h : OwnO w B v l) (hb : Below w.heap.size w w') : OwnO w' B v l := by
  obtain ⟨vs, h1, h2⟩ := h
  exact ⟨vs, h1.below hb, own_below h2 hb⟩
theorem OwnO.nil (w : World) (B : Nat) : OwnO w B (.slice none 0 0) [] := ⟨[], ⟨rfl, fun j h => by simp at h⟩, World.ownsRow_nil _ _ _ _⟩
theorem infoOut : (Tryz.prog.info? 55).map (fun i => (i.zero, i.size, i.bytes)) = some (some (.agg #[.int .i64 0, .int .i64 0, .int .i64 0, .slice none 0 0, .int .i64 0]), 5, 56) := by kernel_rfl
theorem infoVal : (Tryz.prog.info? 52).map (fun i => (i.zero, i.size, i.bytes)) = some (some (.agg #[.bool false, .int .i64 0]), 2, 16) := by kernel_rfl
/-- an out row as a value -/
def ov (o : Pv.Out) (s : Value) : Value := .agg #[.int .i64 o.1.1, .int .i64 o.1.2.1, .int .i64 o.1.2.2, s, .int .i64 o.2.2]
end Go.Proofs.YtcoofnhdbejnpaaGreatDoor

/- Package lines: some, none, tileOf, edge, columnAt. -/
namespace Go.Proofs.YtcoofnhdbejnpaaGreatDoor
open Go.RowKit
theorem lsome_any (n : Int) (w : World) : Calls Tryz.prog 175 #[.int .i64 n] w fun e w' => e = .returned (.agg #[.bool true, .int .i64 n]) ∧ Below w.heap.size w w' := by
  go_enter Tryz.func175, Tryz.ntmps175
  go_wp2
  exact bodyPost_ret (v := .agg #[.bool true, .int .i64 n]) (by simp [results, Tryz.results175, go_sem]) rfl ⟨rfl, ((Below.refl _ _).alloc (Nat.le_refl _) _)⟩
theorem lnone_any (w : World) : Calls Tryz.prog 200 #[] w fun e w' => e = .returned (.agg #[.bool false, .int .i64 0]) ∧ Below w.heap.size w w' := by
  go_enter Tryz.func200, Tryz.ntmps200
  go_wp2
  exact bodyPost_ret (v := .agg #[.bool false, .int .i64 0]) (by simp [results, Tryz.results200, go_sem]) rfl ⟨rfl, ((Below.refl _ _).alloc (Nat.le_refl _) _)⟩
set_option maxHeartbeats 2000000 in
theorem ltile_any (i n m : Int) (w : World) (hi : 1 ≤ i) (hi2 : i ≤ 100000) (hn : 0 ≤ n) (hn2 : n ≤ 100000) (hm : 1 ≤ m) (hm2 : m ≤ 1000) :
    Calls Tryz.prog 178 #[.int .i64 i, .int .i64 n, .int .i64 m] w fun e w' => e = .returned (.int .i64 (Pv.tileP i n m)) ∧ w' = w := by
  have d1 : 0 ≤ n / m := Int.ediv_nonneg hn (by omega)
  have d2 : n / m ≤ 100000 := Int.le_trans (Int.ediv_le_self m hn) hn2
  have r1 : 0 ≤ n % m := Int.emod_nonneg n (by omega)
  have r2 : n % m < m := Int.emod_lt_of_pos n (by omega)
  have hm0 : (m == 0) = false := by simp; omega
  have hn0 : ¬ n < 0 := by omega
  have hm1 : ¬ m < 1 := by omega
  have p1 : 0 ≤ n % m * (n / m + 1) := Int.mul_nonneg r1 (by omega)
  have p2 : n % m * (n / m + 1) ≤ 1000 * 100001 := Int.le_trans (Int.mul_le_mul_of_nonneg_right (c := n / m + 1) (show n % m ≤ 1000 by omega) (by omega)) (Int.mul_le_mul_of_nonneg_left (show n / m + 1 ≤ 100001 by omega) (by omega))
  have HT : ∀ z, Hid ((if n / m = 0 ∨ i ≤ (n % m) * (n / m + 1) then (i - 1) / (n / m + 1) + 1 else n % m + (i - 1 - (n % m) * (n / m + 1)) / (n / m) + 1) = z → Pv.tileP i n m = z) := fun z h => h
  have i1 : 0 ≤ i - 1 := by omega
  have q1 : 0 ≤ (i - 1) / (n / m + 1) := Int.ediv_nonneg i1 (by omega)
  have q2 : (i - 1) / (n / m + 1) ≤ 100000 := Int.le_trans (Int.ediv_le_self _ i1) (by omega)
  have s1 : (n / m + 1 == 0) = false := by simp; omega
  have s2 : 0 ≤ n / m + 1 := by omega
  by_cases h0 : n / m = 0
  · have H := hide ((HT i).out (by rw [if_pos (.inl h0), h0]; simp))
    clear HT
    go_enter Tryz.func178, Tryz.ntmps178
    go_wp2
    go_ret
    exact ⟨by rw [H.out]; rfl, rfl⟩
  · have h0' : (n / m == 0) = false := by simp [h0]
    by_cases h1 : i ≤ n % m * (n / m + 1)
    · have H := hide ((HT _).out (if_pos (.inr h1)))
      clear HT
      go_enter Tryz.func178, Tryz.ntmps178
      go_wp2
      go_ret
      exact ⟨by rw [H.out]; rfl, rfl⟩
    · have H := hide ((HT _).out (if_neg (by omega)))
      have i2 : 0 ≤ i - 1 - n % m * (n / m + 1) := by omega
      have q3 : 0 ≤ (i - 1 - n % m * (n / m + 1)) / (n / m) := Int.ediv_nonneg i2 (by omega)
      have q4 : (i - 1 - n % m * (n / m + 1)) / (n / m) ≤ 100000 := Int.le_trans (Int.ediv_le_self _ i2) (by omega)
      clear HT
      go_enter Tryz.func178, Tryz.ntmps178
      go_wp2
      go_ret
      exact ⟨by rw [H.out]; rfl, rfl⟩
set_option maxHeartbeats 1000000 in
theorem ledge_any {w : World} {g o : Nat} {x : Option Addr} {n c : Nat} (h : w.cell? ⟨g, o + 1, none⟩ = some (.slice x n c)) (e : Pq.Edge) (he : e.kind < 5) (he1 : 0 ≤ e.num) (he2 : e.num ≤ 1000) (i : Int) (hi1 : -100000 ≤ i) (hi2 : i ≤ 100000) :
    Calls Tryz.prog 203 #[.pointer (some ⟨g, o, none⟩), .agg #[.int .i64 (e.kind : Int), .int .i64 e.num], .int .i64 i] w fun r w' => r = .returned (.int .i64 (Pv.edgeP e n i)) ∧ Below w.heap.size w w' := by
  obtain ⟨k, m⟩ := e
  simp only at he he1 he2 ⊢
  have hgl := cell_lt h
  have HC : ∀ ob : Obj, Hid ((w.alloc ob).cell? ⟨g, o + 1, none⟩ = some (.slice x n c)) := fun ob => (((Below.refl w.heap.size w).alloc (Nat.le_refl _) ob).cell (p := ⟨g, o + 1, none⟩) hgl).trans h
  match k, he with
  | 0, _ =>
    have e0 : ((0 : Nat) : Int) = 0 := rfl
    rw [e0]
    go_enter Tryz.func203, Tryz.ntmps203
    go_wp2
    go_ret
    exact ⟨rfl, (Below.refl _ _).alloc (Nat.le_refl _) _⟩
  | 1, _ =>
    have e0 : ((1 : Nat) : Int) = 1 := rfl
    rw [e0]
    have q1 := (HC (.cells #[.int .i64 1, .int .i64 m] 219)).out
    go_enter Tryz.func203, Tryz.ntmps203
    go_wp2
    go_ret
    exact ⟨rfl, (Below.refl _ _).alloc (Nat.le_refl _) _⟩
  | 2, _ =>
    have e0 : ((2 : Nat) : Int) = 2 := rfl
    rw [e0]
    go_enter Tryz.func203, Tryz.ntmps203
    go_wp2
    go_ret
    exact ⟨rfl, (Below.refl _ _).alloc (Nat.le_refl _) _⟩
  | 3, _ =>
    have e0 : ((3 : Nat) : Int) = 3 := rfl
    rw [e0]
    go_enter Tryz.func203, Tryz.ntmps203
    go_wp2
    go_ret
    exact ⟨rfl, (Below.refl _ _).alloc (Nat.le_refl _) _⟩
  | 4, _ =>
    have e0 : ((4 : Nat) : Int) = 4 := rfl
    rw [e0]
    go_enter Tryz.func203, Tryz.ntmps203
    go_wp2
    go_ret
    exact ⟨rfl, (Below.refl _ _).alloc (Nat.le_refl _) _⟩
set_option maxRecDepth 100000 in
set_option maxHeartbeats 1000000 in
theorem lcol_any {w : World} {g o : Nat} {vk vc : Value} {ks : List (Nat × Bool)} {L : List Pv.R3} (h : LnAt w g o vk vc ks L) (hL : L.length ≤ 100000) {c : Nat} (hc : c < 3) (i : Int) (hi1 : -1000000 ≤ i) (hi2 : i ≤ 1000000) :
    Calls Tryz.prog 179 #[.pointer (some ⟨g, o, none⟩), .int .i64 (c : Int), .int .i64 i] w fun e w' => e = .returned (vv (Pv.columnP L c i)) ∧ Below w.heap.size w w' := by
  have HH := hide h
  obtain ⟨xc, cc, rfl⟩ := RdG.sl h.rc
  clear h
  go_enter Tryz.func179, Tryz.ntmps179
  go_upto_region 1 with fail
  have C0 := hide (K1.start w #[.bool false, .int .i64 0] 52)
  generalize w.alloc (.cells #[.bool false, .int .i64 0] 52) = w0 at *
  have H1 := hide (HH.out.below C0.out.bl)
  by_cases hin : 1 ≤ i ∧ i ≤ (L.length : Int)
  · have hia := Pv.hasP_yes hin
    obtain ⟨j, rfl⟩ : ∃ j : Nat, i = (j : Int) + 1 := ⟨(i - 1).toNat, by omega⟩
    have hj : j < L.length := by omega
    have HE : Hid (Pv.columnP L c ((j : Int) + 1) = some (Pv.colV c L[j])) := Pv.columnP_in L c j hj
    obtain ⟨gc, oc, capc, e, _⟩ := RdG.form1 HH.out.rc (by omega)
    cases e
    have q1 := H1.out.c1
    obtain ⟨c0, c1, c2⟩ := H1.out.rc.cell j hj
    have hj' : (j : Int) < (L.length : Int) := by omega
    have hwj : IntKind.i64.wrap (j : Int) = (j : Int) := wrap_id (by omega) (by omega)
    go_wp2_with (go_at_call 199; refine (has_any H1.out.c1 _).mono ?_; rintro e w' ⟨rfl, rfl⟩; simp only [hia])
    refine (colOf_any hc _ _ _ _).mono ?_
    rintro e w3 ⟨rfl, e3⟩
    have C3 := hide (C0.out.below e3)
    clear e3 q1 c0 c1 c2
    go_wp2_with fail
    refine (lsome_any _ _).mono ?_
    rintro e w4 ⟨rfl, e4⟩
    have C4 := hide (C3.out.below e4)
    clear e4
    have z0 : w4.cell? ⟨w.heap.size, 0, none⟩ = some (.bool false) := cell_of_heap C4.out.a 0
    have z1 : w4.cell? ⟨w.heap.size, 1, none⟩ = some (.int .i64 0) := cell_of_heap C4.out.a 1
    have f0 := free_of_heap C4.out.a 0
    have f1 := free_of_heap C4.out.a 1
    obtain ⟨l0, l1⟩ := set2 C4.out.a (.bool true) (.int .i64 (Pv.colV c (L[j].1, L[j].2.1, L[j].2.2)))
    go_wp2
    refine bodyPost_ret (v := .agg #[.bool true, .int .i64 (Pv.colV c (L[j].1, L[j].2.1, L[j].2.2))]) (by simp [results, Tryz.results179, go_sem, l0, l1]) rfl ⟨by rw [HE.out]; rfl, ?_⟩
    exact (C4.out.bl.setCell (p := ⟨w.heap.size, 0, none⟩) (Nat.le_refl _) _).setCell (p := ⟨w.heap.size, 1, none⟩) (Nat.le_refl _) _
  · have hia := Pv.hasP_no hin
    have HE : Hid (Pv.columnP L c i = none) := by show _ = _; unfold Pv.columnP; rw [if_pos (by omega)]
    go_wp2_with (go_at_call 199; refine (has_any H1.out.c1 _).mono ?_; rintro e w' ⟨rfl, rfl⟩; simp only [hia])
    refine (lnone_any _).mono ?_
    rintro e w4 ⟨rfl, e4⟩
    have C4 := hide (C0.out.below e4)
    clear e4
    have z0 : w4.cell? ⟨w.heap.size, 0, none⟩ = some (.bool false) := cell_of_heap C4.out.a 0
    have z1 : w4.cell? ⟨w.heap.size, 1, none⟩ = some (.int .i64 0) := cell_of_heap C4.out.a 1
    have f0 := free_of_heap C4.out.a 0
    have f1 := free_of_heap C4.out.a 1
    obtain ⟨l0, l1⟩ := set2 C4.out.a (.bool false) (.int .i64 0)
    go_wp2
    refine bodyPost_ret (v := .agg #[.bool false, .int .i64 0]) (by simp [results, Tryz.results179, go_sem, l0, l1]) rfl ⟨by rw [HE.out]; rfl, ?_⟩
    exact (C4.out.bl.setCell (p := ⟨w.heap.size, 0, none⟩) (Nat.le_refl _) _).setCell (p := ⟨w.heap.size, 1, none⟩) (Nat.le_refl _) _
end Go.Proofs.YtcoofnhdbejnpaaGreatDoor

/- Package lines: isAhead, arePeers, endsGroup. -/
namespace Go.Proofs.YtcoofnhdbejnpaaGreatDoor
open Go.RowKit
theorem Pv.ahead_drop (ks : List (Nat × Bool)) (a b : Pv.R3) (k : Nat) (h : k < ks.length) : Pv.aheadP (ks.drop k) a b = if Pv.colV ks[k].1 a = Pv.colV ks[k].1 b then Pv.aheadP (ks.drop (k + 1)) a b else (decide (Pv.colV ks[k].1 a < Pv.colV ks[k].1 b) != ks[k].2) := by
  rw [List.drop_eq_getElem_cons h]; rfl
theorem Pv.ahead_end (ks : List (Nat × Bool)) (a b : Pv.R3) (k : Nat) (h : ¬ k < ks.length) : Pv.aheadP (ks.drop k) a b = Pv.lower a b := by
  rw [List.drop_eq_nil_of_le (by omega)]; rfl
set_option maxRecDepth 100000 in
set_option maxHeartbeats 2000000 in
theorem lahead_any {w : World} {g o : Nat} {vk : Value} {ks : List (Nat × Bool)} (h0 : w.cell? ⟨g, o, none⟩ = some vk) (hk : RdK w vk ks) (hl : ks.length ≤ 1000) (hc : ∀ k ∈ ks, k.1 < 3) (p u v p' u' v' : Int) :
    Calls Tryz.prog 174 #[.pointer (some ⟨g, o, none⟩), .agg #[.int .i64 p, .int .i64 u, .int .i64 v], .agg #[.int .i64 p', .int .i64 u', .int .i64 v']] w fun e w' => e = .returned (.bool (Pv.aheadP ks (p, u, v) (p', u', v'))) ∧ Below w.heap.size w w' := by
  have HK := hide hk
  have H0 := hide h0
  have HC := hide hc
  obtain ⟨xk, ck, rfl⟩ := RdG.sl hk
  have hgl := cell_lt h0
  clear hk h0 hc
  go_enter Tryz.func174, Tryz.ntmps174
  go_upto_region 1 with fail
  have C0 := hide (K2.start w #[.int .i64 p, .int .i64 u, .int .i64 v] 48 #[.int .i64 p', .int .i64 u', .int .i64 v'] 48)
  generalize ((w.alloc (.cells #[.int .i64 p, .int .i64 u, .int .i64 v] 48)).alloc (.cells #[.int .i64 p', .int .i64 u', .int .i64 v'] 48)) = w0 at *
  have HX : ∀ wx, Hid (Below w0.heap.size w0 wx → Below w.heap.size w wx ∧ wx.cell? ⟨g, o, none⟩ = some (.slice xk ks.length ck) ∧ wx.cell? ⟨w.heap.size, 0, none⟩ = some (.int .i64 p) ∧ wx.cell? ⟨w.heap.size, 1, none⟩ = some (.int .i64 u) ∧ wx.cell? ⟨w.heap.size, 2, none⟩ = some (.int .i64 v) ∧ wx.cell? ⟨w.heap.size + 1, 0, none⟩ = some (.int .i64 p') ∧ wx.cell? ⟨w.heap.size + 1, 1, none⟩ = some (.int .i64 u') ∧ wx.cell? ⟨w.heap.size + 1, 2, none⟩ = some (.int .i64 v')) := fun wx hb => by
    have C1 := C0.out.below hb
    exact ⟨C1.bl, (C1.bl.cell (p := ⟨g, o, none⟩) hgl).trans H0.out, cell_of_heap C1.a 0, cell_of_heap C1.a 1, cell_of_heap C1.a 2, cell_of_heap C1.b 0, cell_of_heap C1.b 1, cell_of_heap C1.b 2⟩
  go_wp2
  go_loopw [7] (fun i wr => ∃ k : Nat, k ≤ ks.length ∧ i = .int .i64 k ∧ Below w0.heap.size w0 wr ∧ Hid (Pv.aheadP (ks.drop k) (p, u, v) (p', u', v') = Pv.aheadP ks (p, u, v) (p', u', v'))) (fun i _ => ks.length - (intOf i).toNat)
  case atStart => exact ⟨0, by omega, rfl, Below.refl _ _, rfl⟩
  case round =>
    obtain ⟨k, hk, rfl, hb, HN⟩ := hrel
    have B1 := hide hb
    clear hb
    obtain ⟨bw, q0, a0, a1, a2, b0, b1, b2⟩ := (HX _).out B1.out
    by_cases hlt : k < ks.length
    · have hlt' : (k : Int) < (ks.length : Int) := by omega
      obtain ⟨gk, ok, cap, e, _⟩ := RdG.form1 HK.out (by omega)
      cases e
      obtain ⟨c0, c1⟩ := (HK.out.below bw).cell k hlt
      have HS := hide (Pv.ahead_drop ks (p, u, v) (p', u', v') k hlt)
      have hc3 := HC.out _ (List.getElem_mem hlt)
      clear bw
      go_upto_region 4 with fail
      go_still_tail 9, (by kernel_rfl)
      go_wp2_with fail
      refine (colOf_any hc3 _ _ _ _).mono ?_
      rintro e w3 ⟨rfl, e3⟩
      replace e3 := undrew e3
      have B3 := hide (B1.out.trans (e3.mono B1.out.size))
      clear q0 a0 a1 a2 b0 b1 b2 c0 c1 e3
      obtain ⟨bw, q0, a0, a1, a2, b0, b1, b2⟩ := (HX _).out B3.out
      obtain ⟨c0, c1⟩ := (HK.out.below bw).cell k hlt
      clear bw
      generalize hx : Pv.colV ks[k].1 (p, u, v) = x at *
      clear hx
      go_upto_region 5 with fail
      go_still_tail 9, (by kernel_rfl)
      go_wp2_with fail
      refine (colOf_any hc3 _ _ _ _).mono ?_
      rintro e w4 ⟨rfl, e4⟩
      replace e4 := undrew e4
      have B4 := hide (B3.out.trans (e4.mono B3.out.size))
      clear q0 a0 a1 a2 b0 b1 b2 c0 c1 e4
      obtain ⟨bw, q0, a0, a1, a2, b0, b1, b2⟩ := (HX _).out B4.out
      obtain ⟨c0, c1⟩ := (HK.out.below bw).cell k hlt
      have BW := hide bw
      clear bw
      generalize hy : Pv.colV ks[k].1 (p', u', v') = y at *
      clear hy
      by_cases hxy : x = y
      · rw [if_pos hxy] at HS
        subst hxy
        go_wp2
        go_roundw
        case rel => exact ⟨k + 1, by omega, by go_num, B4.out, HS.out.symm.trans HN.out⟩
        case measure => simp [intOf]; omega
      · rw [if_neg hxy] at HS
        have hxy' : (x != y) = true := by simp [hxy]
        clear hxy
        cases hd : ks[k].2
        · rw [hd] at c1 HS
          have HR : Hid (Pv.aheadP ks (p, u, v) (p', u', v') = decide (x < y)) := by show _ = _; rw [← HN.out, HS.out]; simp
          go_wp2
          go_ret
          exact ⟨by rw [HR.out]; rfl, BW.out⟩
        · rw [hd] at c1 HS
          have HR : Hid (Pv.aheadP ks (p, u, v) (p', u', v') = !(decide (x < y))) := by show _ = _; rw [← HN.out, HS.out]; simp
          go_wp2
          go_ret
          exact ⟨by rw [HR.out]; rfl, BW.out⟩
    · have hlt' : ¬ (k : Int) < (ks.length : Int) := by omega
      have HS : Hid (Pv.lower (p, u, v) (p', u', v') = Pv.aheadP ks (p, u, v) (p', u', v')) := (Pv.ahead_end ks _ _ k hlt).symm.trans HN.out
      have BW := hide bw
      clear bw
      go_wp2_with fail
      refine (isAhead_any _ _ _ _ _ _ _).mono ?_
      rintro e w3 ⟨rfl, e3⟩
      have B3 := hide (BW.out.trans (e3.mono BW.out.size))
      clear e3
      go_wp2
      go_ret
      exact ⟨by rw [← HS.out]; rfl, B3.out⟩
theorem Pv.peers_drop (ks : List (Nat × Bool)) (a b : Pv.R3) (k : Nat) (h : k < ks.length) : Pv.peersP (ks.drop k) a b = (decide (Pv.colV ks[k].1 a = Pv.colV ks[k].1 b) && Pv.peersP (ks.drop (k + 1)) a b) := by
  rw [List.drop_eq_getElem_cons h]; rfl
theorem Pv.peers_end (ks : List (Nat × Bool)) (a b : Pv.R3) (k : Nat) (h : ¬ k < ks.length) : Pv.peersP (ks.drop k) a b = true := by
  rw [List.drop_eq_nil_of_le (by omega)]; rfl
set_option maxRecDepth 100000 in
set_option maxHeartbeats 4000000 in
theorem lpeers_any {w : World} {g o : Nat} {vk : Value} {ks : List (Nat × Bool)} (h0 : w.cell? ⟨g, o, none⟩ = some vk) (hk : RdK w vk ks) (hl : ks.length ≤ 1000) (hc : ∀ k ∈ ks, k.1 < 3) (p u v p' u' v' : Int) :
    Calls Tryz.prog 216 #[.pointer (some ⟨g, o, none⟩), .agg #[.int .i64 p, .int .i64 u, .int .i64 v], .agg #[.int .i64 p', .int .i64 u', .int .i64 v']] w fun e w' => e = .returned (.bool (Pv.peersP ks (p, u, v) (p', u', v'))) ∧ Below w.heap.size w w' := by
  have HK := hide hk
  have H0 := hide h0
  have HC := hide hc
  obtain ⟨xk, ck, rfl⟩ := RdG.sl hk
  have hgl := cell_lt h0
  clear hk h0 hc
  go_enter Tryz.func216, Tryz.ntmps216
  go_upto_region 1 with fail
  have C0 := hide (K2.start w #[.int .i64 p, .int .i64 u, .int .i64 v] 48 #[.int .i64 p', .int .i64 u', .int .i64 v'] 48)
  generalize ((w.alloc (.cells #[.int .i64 p, .int .i64 u, .int .i64 v] 48)).alloc (.cells #[.int .i64 p', .int .i64 u', .int .i64 v'] 48)) = w0 at *
  have HX : ∀ wx, Hid (Below w0.heap.size w0 wx → Below w.heap.size w wx ∧ wx.cell? ⟨g, o, none⟩ = some (.slice xk ks.length ck) ∧ wx.cell? ⟨w.heap.size, 0, none⟩ = some (.int .i64 p) ∧ wx.cell? ⟨w.heap.size, 1, none⟩ = some (.int .i64 u) ∧ wx.cell? ⟨w.heap.size, 2, none⟩ = some (.int .i64 v) ∧ wx.cell? ⟨w.heap.size + 1, 0, none⟩ = some (.int .i64 p') ∧ wx.cell? ⟨w.heap.size + 1, 1, none⟩ = some (.int .i64 u') ∧ wx.cell? ⟨w.heap.size + 1, 2, none⟩ = some (.int .i64 v')) := fun wx hb => by
    have C1 := C0.out.below hb
    exact ⟨C1.bl, (C1.bl.cell (p := ⟨g, o, none⟩) hgl).trans H0.out, cell_of_heap C1.a 0, cell_of_heap C1.a 1, cell_of_heap C1.a 2, cell_of_heap C1.b 0, cell_of_heap C1.b 1, cell_of_heap C1.b 2⟩
  go_wp2
  go_loopw [7] (fun i wr => ∃ k : Nat, k ≤ ks.length ∧ i = .int .i64 k ∧ Below w0.heap.size w0 wr ∧ Hid (Pv.peersP (ks.drop k) (p, u, v) (p', u', v') = Pv.peersP ks (p, u, v) (p', u', v'))) (fun i _ => ks.length - (intOf i).toNat)
  case atStart => exact ⟨0, by omega, rfl, Below.refl _ _, rfl⟩
  case round =>
    obtain ⟨k, hk, rfl, hb, HN⟩ := hrel
    have B1 := hide hb
    clear hb
    obtain ⟨bw, q0, a0, a1, a2, b0, b1, b2⟩ := (HX _).out B1.out
    by_cases hlt : k < ks.length
    · have hlt' : (k : Int) < (ks.length : Int) := by omega
      obtain ⟨gk, ok, cap, e, _⟩ := RdG.form1 HK.out (by omega)
      cases e
      have HS := hide (Pv.peers_drop ks (p, u, v) (p', u', v') k hlt)
      have hc3 := HC.out _ (List.getElem_mem hlt)
      have HY : ∀ w', Hid (Below wr.heap.size wr w' → (fun w' => w'.cell? ⟨g, o, none⟩ = some (.slice (some ⟨gk, ok, none⟩) ks.length ck) ∧ w'.cell? ⟨w.heap.size, 0, none⟩ = some (.int .i64 p) ∧ w'.cell? ⟨w.heap.size, 1, none⟩ = some (.int .i64 u) ∧ w'.cell? ⟨w.heap.size, 2, none⟩ = some (.int .i64 v) ∧ w'.cell? ⟨w.heap.size + 1, 0, none⟩ = some (.int .i64 p') ∧ w'.cell? ⟨w.heap.size + 1, 1, none⟩ = some (.int .i64 u') ∧ w'.cell? ⟨w.heap.size + 1, 2, none⟩ = some (.int .i64 v') ∧ w'.cell? ⟨gk, ok + k * 2, none⟩ = some (.int .i64 (ks[k].1 : Int)) ∧ Hid (Below wr.heap.size wr w')) w') := fun w' hb => by
        obtain ⟨bw, q0, a0, a1, a2, b0, b1, b2⟩ := (HX _).out (B1.out.trans (hb.mono B1.out.size))
        exact ⟨q0, a0, a1, a2, b0, b1, b2, ((HK.out.below bw).cell k hlt).1, hb⟩
      clear bw
      go_upto_region 4 with fail
      clear q0 a0 a1 a2 b0 b1 b2
      go_region_held3 (fun w' => w'.cell? ⟨g, o, none⟩ = some (.slice (some ⟨gk, ok, none⟩) ks.length ck) ∧ w'.cell? ⟨w.heap.size, 0, none⟩ = some (.int .i64 p) ∧ w'.cell? ⟨w.heap.size, 1, none⟩ = some (.int .i64 u) ∧ w'.cell? ⟨w.heap.size, 2, none⟩ = some (.int .i64 v) ∧ w'.cell? ⟨w.heap.size + 1, 0, none⟩ = some (.int .i64 p') ∧ w'.cell? ⟨w.heap.size + 1, 1, none⟩ = some (.int .i64 u') ∧ w'.cell? ⟨w.heap.size + 1, 2, none⟩ = some (.int .i64 v') ∧ w'.cell? ⟨gk, ok + k * 2, none⟩ = some (.int .i64 (ks[k].1 : Int)) ∧ Hid (Below wr.heap.size wr w')) (first | exact (HY _).out (below_drew0 _) | (refine (HY _).out ?_; go_split_ands; exact Below.trans (Hid.out (by assumption)) (Below.mono (by assumption) (Below.size (Hid.out (by assumption)))))) ((go_at_call 197; refine (colOf_any hc3 _ _ _ _).mono ?_; rintro e w3 ⟨rfl, b3⟩))
      rename_i hH
      have B4 := hide (B1.out.trans (hH.2.2.2.2.2.2.2.2.out.mono B1.out.size))
      have BW := hide ((HX _).out B4.out).1
      clear hH b3
      generalize Pv.colV ks[k].1 (p, u, v) = cx at *
      generalize Pv.colV ks[k].1 (p', u', v') = cy at *
      by_cases hxy : cx = cy
      · subst hxy
        rw [decide_eq_true rfl, Bool.true_and] at HS
        go_wp2
        go_roundw
        case rel => exact ⟨k + 1, by omega, by go_num, B4.out, HS.out.symm.trans HN.out⟩
        case measure => simp [intOf]; omega
      · rw [decide_eq_false hxy, Bool.false_and] at HS
        have hxy' : (cx != cy) = true := by simp [hxy]
        have HR : Hid (Pv.peersP ks (p, u, v) (p', u', v') = false) := HN.out.symm.trans HS.out
        clear hxy
        go_wp2
        go_ret
        exact ⟨by rw [HR.out]; rfl, BW.out⟩
    · have hlt' : ¬ (k : Int) < (ks.length : Int) := by omega
      have HR : Hid (Pv.peersP ks (p, u, v) (p', u', v') = true) := HN.out.symm.trans (Pv.peers_end ks _ _ k hlt)
      have BW := hide bw
      clear bw
      go_wp2
      go_ret
      exact ⟨by rw [HR.out]; rfl, BW.out⟩
set_option maxRecDepth 100000 in
set_option maxHeartbeats 2000000 in
theorem lends_any {w : World} {g o : Nat} {vk vc : Value} {ks : List (Nat × Bool)} {L : List Pv.R3} (h : LnAt w g o vk vc ks L) (hl : ks.length ≤ 1000) (hc : ∀ k ∈ ks, k.1 < 3) (hL : L.length ≤ 100000) (i : Int) (hi1 : -1000000 ≤ i) (hi2 : i ≤ 1000000) :
    Calls Tryz.prog 198 #[.pointer (some ⟨g, o, none⟩), .int .i64 i] w fun e w' => e = .returned (.bool (Pv.endsP ks L i)) ∧ Below w.heap.size w w' := by
  have HH := hide h
  have HC := hide hc
  obtain ⟨xc, cc, rfl⟩ := RdG.sl h.rc
  have q1 := h.c1
  clear h hc
  by_cases h1 : i < 1
  · have HE := hide (Pv.endsP_out ks L i (.inl h1))
    go_enter Tryz.func198, Tryz.ntmps198
    go_wp2
    go_ret
    exact ⟨by rw [HE.out]; rfl, Below.refl _ _⟩
  · by_cases h2 : (L.length : Int) ≤ i
    · have HE := hide (Pv.endsP_out ks L i (.inr h2))
      go_enter Tryz.func198, Tryz.ntmps198
      go_wp2
      go_ret
      exact ⟨by rw [HE.out]; rfl, Below.refl _ _⟩
    · obtain ⟨j, rfl⟩ : ∃ j : Nat, i = (j : Int) + 1 := ⟨(i - 1).toNat, by omega⟩
      have hj1 : j + 1 < L.length := by omega
      have hj0 : j < L.length := by omega
      have hj1' : (j : Int) + 1 < (L.length : Int) := by omega
      have hj0' : (j : Int) < (L.length : Int) := by omega
      have HE := hide (Pv.endsP_in ks L j hj1)
      have HE2 : Hid (Pv.endsP ks L ((j : Int) + 1) = !(Pv.peersP ks L[j] L[j + 1])) := HE.out
      obtain ⟨gc, oc, cap, e, _⟩ := RdG.form1 HH.out.rc (by omega)
      cases e
      obtain ⟨c0, c1, c2⟩ := HH.out.rc.cell j hj0
      obtain ⟨d0, d1, d2⟩ := HH.out.rc.cell (j + 1) hj1
      have hwj : IntKind.i64.wrap (j : Int) = (j : Int) := wrap_id (by omega) (by omega)
      have b5 : (0 : Int) ≤ (j : Int) + 1 := by omega
      clear HE
      go_enter Tryz.func198, Tryz.ntmps198
      go_upto_region 3 with fail
      go_still_tail 16, (by kernel_rfl)
      go_wp2_with fail
      refine (lpeers_any (HH.out.below (below_drew0 _)).c0 (HH.out.below (below_drew0 _)).rk hl HC.out _ _ _ _ _ _).mono ?_
      rintro e w3 ⟨rfl, e3⟩
      have B3 := hide (undrew e3)
      clear e3
      go_wp2
      go_ret
      exact ⟨by rw [HE2.out]; rfl, B3.out⟩
end Go.Proofs.YtcoofnhdbejnpaaGreatDoor

