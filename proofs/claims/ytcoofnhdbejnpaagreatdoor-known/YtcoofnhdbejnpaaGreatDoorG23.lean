/- What is read behind slices: rows, KEYs, columns, FUNCs. -/
import Derived.Test.YtcoofnhdbejnpaaGreatDoorG11
import Derived.Test.YtcoofnhdbejnpaaGreatDoorG17
import Derived.Test.YtcoofnhdbejnpaaGreatDoorG21
import Derived.Test.YtcoofnhdbejnpaaGreatDoorG22
namespace Go.Proofs.YtcoofnhdbejnpaaGreatDoor
open Go.RowKit
theorem cell_lt {w : World} {a : Addr} {v : Value} (h : w.cell? a = some v) : a.block < w.heap.size := by
  unfold World.cell? at h
  rcases Nat.lt_or_ge a.block w.heap.size with h1 | h1
  · exact h1
  · rw [Array.getElem?_eq_none h1] at h; simp at h
def rrow (r : Pv.R3) : List Value := [.int .i64 r.1, .int .i64 r.2.1, .int .i64 r.2.2]
def rrows (l : List Pv.R3) : List Value := l.flatMap rrow
theorem rrows_snoc (l : List Pv.R3) (r : Pv.R3) : rrows (l ++ [r]) = rrows l ++ rrow r := by simp [rrows]
theorem rrows_len (l : List Pv.R3) : (rrows l).length = l.length * 3 := by
  induction l with
  | nil => rfl
  | cons c l ih => simp only [rrows, List.flatMap_cons, List.length_append] at ih ⊢; rw [ih]; simp [rrow]; omega
theorem rrows_get : ∀ (l : List Pv.R3) (n : Nat) (h : n < l.length), (rrows l)[n * 3]? = some (.int .i64 l[n].1) ∧ (rrows l)[n * 3 + 1]? = some (.int .i64 l[n].2.1) ∧ (rrows l)[n * 3 + 2]? = some (.int .i64 l[n].2.2)
  | [], n, h => by simp at h
  | c :: l, 0, _ => by simp [rrows, rrow]
  | c :: l, n + 1, h => by
    have ih := rrows_get l n (by simpa using h)
    have e : rrows (c :: l) = rrow c ++ rrows l := by simp [rrows]
    have hl : (rrow c).length = 3 := rfl
    rw [e]
    refine ⟨?_, ?_, ?_⟩
    · rw [List.getElem?_append_right (by omega), hl, show (n + 1) * 3 - 3 = n * 3 by omega]; exact ih.1
    · rw [List.getElem?_append_right (by omega), hl, show (n + 1) * 3 + 1 - 3 = n * 3 + 1 by omega]; exact ih.2.1
    · rw [List.getElem?_append_right (by omega), hl, show (n + 1) * 3 + 2 - 3 = n * 3 + 2 by omega]; exact ih.2.2
theorem rrows_set : ∀ (l : List Pv.R3) (j : Nat) (c : Pv.R3), j < l.length → rrows (l.set j c) = (((rrows l).set (j * 3) (.int .i64 c.1)).set (j * 3 + 1) (.int .i64 c.2.1)).set (j * 3 + 2) (.int .i64 c.2.2)
  | [], j, _, h => by simp at h
  | d :: l, 0, c, _ => by simp [rrows, rrow]
  | d :: l, j + 1, c, h => by
    have ih := rrows_set l j c (by simpa using h)
    have e : ∀ m : List Pv.R3, rrows (d :: m) = rrow d ++ rrows m := fun m => by simp [rrows]
    have hl : (rrow d).length = 3 := rfl
    rw [List.set_cons_succ, e, e, ih, List.set_append_right _ _ (by omega), List.set_append_right _ _ (by omega), List.set_append_right _ _ (by omega), hl, show (j + 1) * 3 - 3 = j * 3 by omega, show (j + 1) * 3 + 1 - 3 = j * 3 + 1 by omega, show (j + 1) * 3 + 2 - 3 = j * 3 + 2 by omega]
/-- rows behind a slice -/
def RdR (w : World) (v : Value) (l : List Pv.R3) : Prop := RdG 48 3 w v l.length (rrows l)
theorem RdR.below {w w' : World} {v : Value} {l : List Pv.R3} (h : RdR w v l) (hb : Below w.heap.size w w') : RdR w' v l := RdG.below h hb
theorem RdR.ofOwn {w : World} {B n : Nat} {v : Value} {l : List Pv.R3} (h : w.ownsRow B 48 3 v n (rrows l)) : RdR w v l := by
  have h1 := RdG.ofOwn h
  have hn : n * 3 = (rrows l).length := h.1.symm
  rw [rrows_len] at hn
  obtain rfl : n = l.length := by omega
  exact h1
theorem RdR.cell {w : World} {g off n cap : Nat} {l : List Pv.R3} (h : RdR w (.slice (some ⟨g, off, none⟩) n cap) l) (j : Nat) (hj : j < l.length) : w.cell? ⟨g, off + j * 3, none⟩ = some (.int .i64 l[j].1) ∧ w.cell? ⟨g, off + j * 3 + 1, none⟩ = some (.int .i64 l[j].2.1) ∧ w.cell? ⟨g, off + j * 3 + 2, none⟩ = some (.int .i64 l[j].2.2) := by
  obtain ⟨h0, h1, h2⟩ := rrows_get l j hj
  exact ⟨RdG.cell h _ _ h0, RdG.cell h _ _ h1, RdG.cell h _ _ h2⟩
theorem lcols_get (l : List Nat) (n : Nat) (h : n < l.length) : (colCells l)[n]? = some (.int .i64 (l[n] : Int)) := by
  unfold colCells
  rw [List.getElem?_map, List.getElem?_eq_getElem h]; rfl
/-- columns behind a slice -/
def RdB (w : World) (v : Value) (l : List Nat) : Prop := RdG 215 1 w v l.length (colCells l)
theorem RdB.below {w w' : World} {v : Value} {l : List Nat} (h : RdB w v l) (hb : Below w.heap.size w w') : RdB w' v l := RdG.below h hb
theorem RdB.cell {w : World} {g off n cap : Nat} {l : List Nat} (h : RdB w (.slice (some ⟨g, off, none⟩) n cap) l) (j : Nat) (hj : j < l.length) : w.cell? ⟨g, off + j, none⟩ = some (.int .i64 (l[j] : Int)) := RdG.cell h _ _ (lcols_get l j hj)
theorem lkeys_get : ∀ (l : List (Nat × Bool)) (n : Nat) (h : n < l.length), (keyCells l)[n * 2]? = some (.int .i64 (l[n].1 : Int)) ∧ (keyCells l)[n * 2 + 1]? = some (.bool l[n].2)
  | [], n, h => by simp at h
  | c :: l, 0, _ => by simp [keyCells]
  | c :: l, n + 1, h => by
    have ih := lkeys_get l n (by simpa using h)
    have e : keyCells (c :: l) = [Value.int .i64 (c.1 : Int), .bool c.2] ++ keyCells l := by simp [keyCells]
    have hl : [Value.int .i64 (c.1 : Int), .bool c.2].length = 2 := rfl
    rw [e]
    refine ⟨?_, ?_⟩
    · rw [List.getElem?_append_right (by omega), hl, show (n + 1) * 2 - 2 = n * 2 by omega]; exact ih.1
    · rw [List.getElem?_append_right (by omega), hl, show (n + 1) * 2 + 1 - 2 = n * 2 + 1 by omega]; exact ih.2
/-- KEYs behind a slice -/
def RdK (w : World) (v : Value) (l : List (Nat × Bool)) : Prop := RdG 253 2 w v l.length (keyCells l)
theorem RdK.below {w w' : World} {v : Value} {l : List (Nat × Bool)} (h : RdK w v l) (hb : Below w.heap.size w w') : RdK w' v l := RdG.below h hb
theorem RdK.cell {w : World} {g off n cap : Nat} {l : List (Nat × Bool)} (h : RdK w (.slice (some ⟨g, off, none⟩) n cap) l) (j : Nat) (hj : j < l.length) : w.cell? ⟨g, off + j * 2, none⟩ = some (.int .i64 (l[j].1 : Int)) ∧ w.cell? ⟨g, off + j * 2 + 1, none⟩ = some (.bool l[j].2) := by
  obtain ⟨h0, h1⟩ := lkeys_get l j hj
  exact ⟨RdG.cell h _ _ h0, RdG.cell h _ _ h1⟩
theorem lfns_get : ∀ (l : List Pq.Fn) (n : Nat) (h : n < l.length) (i : Nat), i < 9 → (fnCells l)[n * 9 + i]? = (fnCell l[n])[i]?
  | [], n, h, _, _ => by simp at h
  | c :: l, 0, _, i, hi => by
    have e : fnCells (c :: l) = fnCell c ++ fnCells l := by simp [fnCells]
    have hl : (fnCell c).length = 9 := rfl
    rw [e, List.getElem?_append_left (by omega)]
    simp
  | c :: l, n + 1, h, i, hi => by
    have ih := lfns_get l n (by simpa using h) i hi
    have e : fnCells (c :: l) = fnCell c ++ fnCells l := by simp [fnCells]
    have hl : (fnCell c).length = 9 := rfl
    rw [e, List.getElem?_append_right (by omega), hl, show (n + 1) * 9 + i - 9 = n * 9 + i by omega]
    exact ih
/-- FUNCs behind a slice -/
def RdF (w : World) (v : Value) (l : List Pq.Fn) : Prop := RdG 223 9 w v l.length (fnCells l)
theorem RdF.below {w w' : World} {v : Value} {l : List Pq.Fn} (h : RdF w v l) (hb : Below w.heap.size w w') : RdF w' v l := RdG.below h hb
theorem RdF.cell {w : World} {g off n cap : Nat} {l : List Pq.Fn} (h : RdF w (.slice (some ⟨g, off, none⟩) n cap) l) (j : Nat) (hj : j < l.length) (i : Nat) (hi : i < 9) (u : Value) (hu : (fnCell l[j])[i]? = some u) : w.cell? ⟨g, off + (j * 9 + i), none⟩ = some u :=
  RdG.cell h _ _ ((lfns_get l j hj i hi).trans hu)
end Go.Proofs.YtcoofnhdbejnpaaGreatDoor

/- Package lines: the small functions: Of, has, cut, some, none, tileOf, edge. -/
namespace Go.Proofs.YtcoofnhdbejnpaaGreatDoor
open Go.RowKit
/-- a line in memory: its two cells, and what they read as -/
structure LnAt (w : World) (g o : Nat) (vk vc : Value) (ks : List (Nat × Bool)) (L : List Pv.R3) : Prop where
  c0 : w.cell? ⟨g, o, none⟩ = some vk
  c1 : w.cell? ⟨g, o + 1, none⟩ = some vc
  rk : RdK w vk ks
  rc : RdR w vc L
theorem LnAt.below {w w' : World} {g o : Nat} {vk vc : Value} {ks : List (Nat × Bool)} {L : List Pv.R3} (h : LnAt w g o vk vc ks L) (hb : Below w.heap.size w w') : LnAt w' g o vk vc ks L :=
  ⟨(hb.cell (p := ⟨g, o, none⟩) (cell_lt h.c0)).trans h.c0, (hb.cell (p := ⟨g, o + 1, none⟩) (cell_lt h.c1)).trans h.c1, h.rk.below hb, h.rc.below hb⟩
set_option maxHeartbeats 400000 in
theorem colOf_any {c : Nat} (hc : c < 3) (p u v : Int) (w : World) : Calls Tryz.prog 197 #[.int .i64 (c : Int), .agg #[.int .i64 p, .int .i64 u, .int .i64 v]] w fun e w' => e = .returned (.int .i64 (Pv.colV c (p, u, v))) ∧ Below w.heap.size w w' := by
  match c, hc with
  | 0, _ =>
    have e : ((0 : Nat) : Int) = 0 := rfl
    rw [e]
    go_enter Tryz.func197, Tryz.ntmps197
    go_wp2
    go_ret
    exact ⟨rfl, (Below.refl _ _).alloc (Nat.le_refl _) _⟩
  | 1, _ =>
    have e : ((1 : Nat) : Int) = 1 := rfl
    rw [e]
    go_enter Tryz.func197, Tryz.ntmps197
    go_wp2
    go_ret
    exact ⟨rfl, (Below.refl _ _).alloc (Nat.le_refl _) _⟩
  | 2, _ =>
    have e : ((2 : Nat) : Int) = 2 := rfl
    rw [e]
    go_enter Tryz.func197, Tryz.ntmps197
    go_wp2
    go_ret
    exact ⟨rfl, (Below.refl _ _).alloc (Nat.le_refl _) _⟩
/-- is there a copy at the position -/
def Pv.hasP (n : Nat) (i : Int) : Bool := decide (1 ≤ i ∧ i ≤ (n : Int))
theorem Pv.hasP_yes {n : Nat} {i : Int} (h : 1 ≤ i ∧ i ≤ (n : Int)) : Pv.hasP n i = true := by simp [Pv.hasP, h]
theorem Pv.hasP_no {n : Nat} {i : Int} (h : ¬ (1 ≤ i ∧ i ≤ (n : Int))) : Pv.hasP n i = false := by unfold Pv.hasP; exact decide_eq_false h
set_option maxHeartbeats 400000 in
theorem has_any {w : World} {g o : Nat} {x : Option Addr} {n c : Nat} (h : w.cell? ⟨g, o + 1, none⟩ = some (.slice x n c)) (i : Int) : Calls Tryz.prog 199 #[.pointer (some ⟨g, o, none⟩), .int .i64 i] w fun e w' => e = .returned (.bool (Pv.hasP n i)) ∧ w' = w := by
  by_cases h1 : 1 ≤ i
  · by_cases h2 : i ≤ (n : Int)
    · have H := hide (Pv.hasP_yes ⟨h1, h2⟩)
      go_enter Tryz.func199, Tryz.ntmps199
      go_wp2
      go_ret
      exact ⟨by rw [H.out]; rfl, rfl⟩
    · have H : Hid (Pv.hasP n i = false) := Pv.hasP_no (by omega)
      go_enter Tryz.func199, Tryz.ntmps199
      go_wp2
      go_ret
      exact ⟨by rw [H.out]; rfl, rfl⟩
  · have H : Hid (Pv.hasP n i = false) := Pv.hasP_no (by omega)
    go_enter Tryz.func199, Tryz.ntmps199
    go_wp2
    go_ret
    exact ⟨by rw [H.out]; rfl, rfl⟩
set_option maxHeartbeats 400000 in
theorem lcut_any {w : World} {g o : Nat} {x : Option Addr} {n c : Nat} (h : w.cell? ⟨g, o + 1, none⟩ = some (.slice x n c)) (a b : Int) : Calls Tryz.prog 136 #[.pointer (some ⟨g, o, none⟩), .int .i64 a, .int .i64 b] w fun e w' => e = .returned (.tuple #[.int .i64 (Pv.cutA a), .int .i64 (Pv.cutB b n)]) ∧ w' = w := by
  have HA : ∀ z, Hid ((if a < 1 then 1 else a) = z → Pv.cutA a = z) := fun z h => h
  have HB : ∀ z, Hid ((if (n : Int) < b then (n : Int) else b) = z → Pv.cutB b n = z) := fun z h => h
  by_cases h1 : a < 1
  · have H1 := hide ((HA 1).out (if_pos h1))
    by_cases h2 : (n : Int) < b
    · have H2 := hide ((HB n).out (if_pos h2))
      go_enter Tryz.func136, Tryz.ntmps136
      go_wp2
      go_ret2
      exact ⟨by rw [H1.out, H2.out]; rfl, rfl⟩
    · have H2 := hide ((HB b).out (if_neg h2))
      go_enter Tryz.func136, Tryz.ntmps136
      go_wp2
      go_ret2
      exact ⟨by rw [H1.out, H2.out]; rfl, rfl⟩
  · have H1 := hide ((HA a).out (if_neg h1))
    by_cases h2 : (n : Int) < b
    · have H2 := hide ((HB n).out (if_pos h2))
      go_enter Tryz.func136, Tryz.ntmps136
      go_wp2
      go_ret2
      exact ⟨by rw [H1.out, H2.out]; rfl, rfl⟩
    · have H2 := hide ((HB b).out (if_neg h2))
      go_enter Tryz.func136, Tryz.ntmps136
      go_wp2
      go_ret2
      exact ⟨by rw [H1.out, H2.out]; rfl, rfl⟩
end Go.Proofs.YtcoofnhdbejnpaaGreatDoor

/- Package lines: some, none, tileOf, edge, columnAt. -/
namespace Go.Proofs.YtcoofnhdbejnpaaGreatDoor
open Go.RowKit
theorem lsome_any (n : Int) (w : World) : Calls Tryz.prog 175 #[.int .i64 n] w fun e w' => e = .returned (.agg #[.bool true, .int .i64 n]) ∧ Below w.heap.size w w' := by
  go_enter Tryz.func175, Tryz.ntmps175
  go_wp2
  exact bodyPost_ret (v := .agg #[.bool true, .int .i64 n]) (by simp [results, Tryz.results175, go_sem]) rfl ⟨rfl, ((Below.refl _ _).alloc (Nat.le_refl _) _)⟩
theorem lnone_any (w : World) : Calls Tryz.prog 200 #[] w fun e w' => e = .returned (.agg #[.bool false, .int .i64 0]) ∧ Below w.heap.size w w' := by
  go_enter Tryz.func200, Tryz.ntmps200
  go_wp2
  exact bodyPost_ret (v := .agg #[.bool false, .int .i64 0]) (by simp [results, Tryz.results200, go_sem]) rfl ⟨rfl, ((Below.refl _ _).alloc (Nat.le_refl _) _)⟩
set_option maxHeartbeats 2000000 in
theorem ltile_any (i n m : Int) (w : World) (hi : 1 ≤ i) (hi2 : i ≤ 100000) (hn : 0 ≤ n) (hn2 : n ≤ 100000) (hm : 1 ≤ m) (hm2 : m ≤ 1000) :
    Calls Tryz.prog 178 #[.int .i64 i, .int .i64 n, .int .i64 m] w fun e w' => e = .returned (.int .i64 (Pv.tileP i n m)) ∧ w' = w := by
  have d1 : 0 ≤ n / m := Int.ediv_nonneg hn (by omega)
  have d2 : n / m ≤ 100000 := Int.le_trans (Int.ediv_le_self m hn) hn2
  have r1 : 0 ≤ n % m := Int.emod_nonneg n (by omega)
  have r2 : n % m < m := Int.emod_lt_of_pos n (by omega)
  have hm0 : (m == 0) = false := by simp; omega
  have hn0 : ¬ n < 0 := by omega
  have hm1 : ¬ m < 1 := by omega
  have p1 : 0 ≤ n % m * (n / m + 1) := Int.mul_nonneg r1 (by omega)
  have p2 : n % m * (n / m + 1) ≤ 1000 * 100001 := Int.le_trans (Int.mul_le_mul_of_nonneg_right (c := n / m + 1) (show n % m ≤ 1000 by omega) (by omega)) (Int.mul_le_mul_of_nonneg_left (show n / m + 1 ≤ 100001 by omega) (by omega))
  have HT : ∀ z, Hid ((if n / m = 0 ∨ i ≤ (n % m) * (n / m + 1) then (i - 1) / (n / m + 1) + 1 else n % m + (i - 1 - (n % m) * (n / m + 1)) / (n / m) + 1) = z → Pv.tileP i n m = z) := fun z h => h
  have i1 : 0 ≤ i - 1 := by omega
  have q1 : 0 ≤ (i - 1) / (n / m + 1) := Int.ediv_nonneg i1 (by omega)
  have q2 : (i - 1) / (n / m + 1) ≤ 100000 := Int.le_trans (Int.ediv_le_self _ i1) (by omega)
  have s1 : (n / m + 1 == 0) = false := by simp; omega
  have s2 : 0 ≤ n / m + 1 := by omega
  by_cases h0 : n / m = 0
  · have H := hide ((HT i).out (by rw [if_pos (.inl h0), h0]; simp))
    clear HT
    go_enter Tryz.func178, Tryz.ntmps178
    go_wp2
    go_ret
    exact ⟨by rw [H.out]; rfl, rfl⟩
  · have h0' : (n / m == 0) = false := by simp [h0]
    by_cases h1 : i ≤ n % m * (n / m + 1)
    · have H := hide ((HT _).out (if_pos (.inr h1)))
      clear HT
      go_enter Tryz.func178, Tryz.ntmps178
      go_wp2
      go_ret
      exact ⟨by rw [H.out]; rfl, rfl⟩
    · have H := hide ((HT _).out (if_neg (by omega)))
      have i2 : 0 ≤ i - 1 - n % m * (n / m + 1) := by omega
      have q3 : 0 ≤ (i - 1 - n % m * (n / m + 1)) / (n / m) := Int.ediv_nonneg i2 (by omega)
      have q4 : (i - 1 - n % m * (n / m + 1)) / (n / m) ≤ 100000 := Int.le_trans (Int.ediv_le_self _ i2) (by omega)
      clear HT
      go_enter Tryz.func178, Tryz.ntmps178
      go_wp2
      go_ret
      exact ⟨by rw [H.out]; rfl, rfl⟩
set_option maxHeartbeats 1000000 in
theorem ledge_any {w : World} {g o : Nat} {x : Option Addr} {n c : Nat} (h : w.cell? ⟨g, o + 1, none⟩ = some (.slice x n c)) (e : Pq.Edge) (he : e.kind < 5) (he1 : 0 ≤ e.num) (he2 : e.num ≤ 1000) (i : Int) (hi1 : -100000 ≤ i) (hi2 : i ≤ 100000) :
    Calls Tryz.prog 203 #[.pointer (some ⟨g, o, none⟩), .agg #[.int .i64 (e.kind : Int), .int .i64 e.num], .int .i64 i] w fun r w' => r = .returned (.int .i64 (Pv.edgeP e n i)) ∧ Below w.heap.size w w' := by
  obtain ⟨k, m⟩ := e
  simp only at he he1 he2 ⊢
  have hgl := cell_lt h
  have HC : ∀ ob : Obj, Hid ((w.alloc ob).cell? ⟨g, o + 1, none⟩ = some (.slice x n c)) := fun ob => (((Below.refl w.heap.size w).alloc (Nat.le_refl _) ob).cell (p := ⟨g, o + 1, none⟩) hgl).trans h
  match k, he with
  | 0, _ =>
    have e0 : ((0 : Nat) : Int) = 0 := rfl
    rw [e0]
    go_enter Tryz.func203, Tryz.ntmps203
    go_wp2
    go_ret
    exact ⟨rfl, (Below.refl _ _).alloc (Nat.le_refl _) _⟩
  | 1, _ =>
    have e0 : ((1 : Nat) : Int) = 1 := rfl
    rw [e0]
    have q1 := (HC (.cells #[.int .i64 1, .int .i64 m] 219)).out
    go_enter Tryz.func203, Tryz.ntmps203
    go_wp2
    go_ret
    exact ⟨rfl, (Below.refl _ _).alloc (Nat.le_refl _) _⟩
  | 2, _ =>
    have e0 : ((2 : Nat) : Int) = 2 := rfl
    rw [e0]
    go_enter Tryz.func203, Tryz.ntmps203
    go_wp2
    go_ret
    exact ⟨rfl, (Below.refl _ _).alloc (Nat.le_refl _) _⟩
  | 3, _ =>
    have e0 : ((3 : Nat) : Int) = 3 := rfl
    rw [e0]
    go_enter Tryz.func203, Tryz.ntmps203
    go_wp2
    go_ret
    exact ⟨rfl, (Below.refl _ _).alloc (Nat.le_refl _) _⟩
  | 4, _ =>
    have e0 : ((4 : Nat) : Int) = 4 := rfl
    rw [e0]
    go_enter Tryz.func203, Tryz.ntmps203
    go_wp2
    go_ret
    exact ⟨rfl, (Below.refl _ _).alloc (Nat.le_refl _) _⟩
set_option maxRecDepth 100000 in
set_option maxHeartbeats 1000000 in
theorem lcol_any {w : World} {g o : Nat} {vk vc : Value} {ks : List (Nat × Bool)} {L : List Pv.R3} (h : LnAt w g o vk vc ks L) (hL : L.length ≤ 100000) {c : Nat} (hc : c < 3) (i : Int) (hi1 : -1000000 ≤ i) (hi2 : i ≤ 1000000) :
    Calls Tryz.prog 179 #[.pointer (some ⟨g, o, none⟩), .int .i64 (c : Int), .int .i64 i] w fun e w' => e = .returned (vv (Pv.columnP L c i)) ∧ Below w.heap.size w w' := by
  have HH := hide h
  obtain ⟨xc, cc, rfl⟩ := RdG.sl h.rc
  clear h
  go_enter Tryz.func179, Tryz.ntmps179
  go_upto_region 1 with fail
  have C0 := hide (K1.start w #[.bool false, .int .i64 0] 52)
  generalize w.alloc (.cells #[.bool false, .int .i64 0] 52) = w0 at *
  have H1 := hide (HH.out.below C0.out.bl)
  by_cases hin : 1 ≤ i ∧ i ≤ (L.length : Int)
  · have hia := Pv.hasP_yes hin
    obtain ⟨j, rfl⟩ : ∃ j : Nat, i = (j : Int) + 1 := ⟨(i - 1).toNat, by omega⟩
    have hj : j < L.length := by omega
    have HE : Hid (Pv.columnP L c ((j : Int) + 1) = some (Pv.colV c L[j])) := Pv.columnP_in L c j hj
    obtain ⟨gc, oc, capc, e, _⟩ := RdG.form1 HH.out.rc (by omega)
    cases e
    have q1 := H1.out.c1
    obtain ⟨c0, c1, c2⟩ := H1.out.rc.cell j hj
    have hj' : (j : Int) < (L.length : Int) := by omega
    have hwj : IntKind.i64.wrap (j : Int) = (j : Int) := wrap_id (by omega) (by omega)
    go_wp2_with (go_at_call 199; refine (has_any H1.out.c1 _).mono ?_; rintro e w' ⟨rfl, rfl⟩; simp only [hia])
    refine (colOf_any hc _ _ _ _).mono ?_
    rintro e w3 ⟨rfl, e3⟩
    have C3 := hide (C0.out.below e3)
    clear e3 q1 c0 c1 c2
    go_wp2_with fail
    refine (lsome_any _ _).mono ?_
    rintro e w4 ⟨rfl, e4⟩
    have C4 := hide (C3.out.below e4)
    clear e4
    have z0 : w4.cell? ⟨w.heap.size, 0, none⟩ = some (.bool false) := cell_of_heap C4.out.a 0
    have z1 : w4.cell? ⟨w.heap.size, 1, none⟩ = some (.int .i64 0) := cell_of_heap C4.out.a 1
    have f0 := free_of_heap C4.out.a 0
    have f1 := free_of_heap C4.out.a 1
    obtain ⟨l0, l1⟩ := set2 C4.out.a (.bool true) (.int .i64 (Pv.colV c (L[j].1, L[j].2.1, L[j].2.2)))
    go_wp2
    refine bodyPost_ret (v := .agg #[.bool true, .int .i64 (Pv.colV c (L[j].1, L[j].2.1, L[j].2.2))]) (by simp [results, Tryz.results179, go_sem, l0, l1]) rfl ⟨by rw [HE.out]; rfl, ?_⟩
    exact (C4.out.bl.setCell (p := ⟨w.heap.size, 0, none⟩) (Nat.le_refl _) _).setCell (p := ⟨w.heap.size, 1, none⟩) (Nat.le_refl _) _
  · have hia := Pv.hasP_no hin
    have HE : Hid (Pv.columnP L c i = none) := by show _ = _; unfold Pv.columnP; rw [if_pos (by omega)]
    go_wp2_with (go_at_call 199; refine (has_any H1.out.c1 _).mono ?_; rintro e w' ⟨rfl, rfl⟩; simp only [hia])
    refine (lnone_any _).mono ?_
    rintro e w4 ⟨rfl, e4⟩
    have C4 := hide (C0.out.below e4)
    clear e4
    have z0 : w4.cell? ⟨w.heap.size, 0, none⟩ = some (.bool false) := cell_of_heap C4.out.a 0
    have z1 : w4.cell? ⟨w.heap.size, 1, none⟩ = some (.int .i64 0) := cell_of_heap C4.out.a 1
    have f0 := free_of_heap C4.out.a 0
    have f1 := free_of_heap C4.out.a 1
    obtain ⟨l0, l1⟩ := set2 C4.out.a (.bool false) (.int .i64 0)
    go_wp2
    refine bodyPost_ret (v := .agg #[.bool false, .int .i64 0]) (by simp [results, Tryz.results179, go_sem, l0, l1]) rfl ⟨by rw [HE.out]; rfl, ?_⟩
    exact (C4.out.bl.setCell (p := ⟨w.heap.size, 0, none⟩) (Nat.le_refl _) _).setCell (p := ⟨w.heap.size, 1, none⟩) (Nat.le_refl _) _
end Go.Proofs.YtcoofnhdbejnpaaGreatDoor

