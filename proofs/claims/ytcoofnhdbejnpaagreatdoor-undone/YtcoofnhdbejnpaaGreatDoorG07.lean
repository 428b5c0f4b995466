/- Plain functions: the queries that are written out of raw bytes. -/
import Derived.Test.YtcoofnhdbejnpaaGreatDoorG02
import Derived.Test.YtcoofnhdbejnpaaGreatDoorG06
namespace Go.Proofs.YtcoofnhdbejnpaaGreatDoor
namespace Pk
open Pq (Bytes)
structure TS where
  a : Nat
  raw : Bytes
  plain : Bytes
def nxt (l : Bytes) (a n : Nat) : Nat := if h : a < l.length then l[a].toNat % n else 0
def adv (l : Bytes) (a : Nat) : Nat := if a < l.length then a + 1 else a
def TS.eat (l : Bytes) (x : TS) : TS := { x with a := adv l x.a }
def pre (x : TS) : Bytes := if x.plain = [] then [] else [32]
def wordS (l : Bytes) (t : Bytes) (x : TS) : TS := ⟨adv l x.a, x.raw ++ pre x ++ (if nxt l x.a 6 = 1 then [10, 32] else []) ++ t, x.plain ++ pre x ++ t⟩
def gluedS (l : Bytes) (t : Bytes) (x : TS) : TS := ⟨adv l x.a, x.raw ++ (if nxt l x.a 4 = 1 then [32] else []) ++ t, x.plain ++ t⟩
def blankB (b : Bool) : Bytes := if b then [32] else []
def nought (l : Bytes) (n : Nat) (x : TS) : Bytes := if n < 10 ∧ nxt l x.a 3 = 1 then [48] else []
def numberS (l : Bytes) (n : Nat) (b : Bool) (x : TS) : TS := ⟨if n < 10 then adv l x.a else x.a, x.raw ++ blankB b ++ nought l n x ++ Pq.numTxt n, x.plain ++ blankB b ++ Pq.numTxt n⟩
def colW : Nat → Bytes | 0 => [112] | 1 => [107] | 2 => [118] | 3 => [112] | _ => [107]
def descS (l : Bytes) (keys : Bool) (x : TS) : TS := if keys then (if nxt l x.a 3 = 1 then wordS l [100, 101, 115, 99] (x.eat l) else x.eat l) else x
def commaS (l : Bytes) (i : Nat) (x : TS) : TS := if 0 < i then gluedS l [44] x else x
def colStep (l : Bytes) (keys : Bool) (at' i : Nat) (x : TS) : TS := descS l keys (wordS l (colW (at' + i)) (commaS l i x))
def colsTo (l : Bytes) (keys : Bool) (at' : Nat) : Nat → TS → TS
  | 0, x => x
  | k + 1, x => colStep l keys at' k (colsTo l keys at' k x)
def colsS (l : Bytes) (keys : Bool) (x : TS) : TS := colsTo l keys (nxt l x.a 3) (1 + nxt l (adv l x.a) 3) ((x.eat l).eat l)
def edgeW : Nat → Bytes | 0 => Pq.wStart | 1 => Pq.wEnd | 2 => Pq.wHere | 3 => Pq.wBack | _ => Pq.wOn
def edgeS (l : Bytes) (x : TS) : TS :=
  if nxt l x.a 5 < 3 then wordS l (edgeW (nxt l x.a 5)) (x.eat l)
  else wordS l (edgeW (nxt l x.a 5)) (numberS l (nxt l (adv l x.a) 5) true ((x.eat l).eat l))
def nearS (l : Bytes) (x : TS) : TS := numberS l (nxt l (wordS l Pq.wNear x).a 20) true ((wordS l Pq.wNear x).eat l)
def betweenS (l : Bytes) (x : TS) : TS := edgeS l (wordS l Pq.wTo (edgeS l x))
def frameS (l : Bytes) (x : TS) : TS :=
  if nxt l x.a 4 = 1 then wordS l Pq.wAll (x.eat l)
  else if nxt l (adv l x.a) 4 = 1 then wordS l Pq.wPeers ((x.eat l).eat l)
  else if nxt l (adv l (adv l x.a)) 4 = 1 then nearS l (((x.eat l).eat l).eat l)
  else betweenS l (((x.eat l).eat l).eat l)
/-- behind the name of a FUNC with a column: ( c , -/
def colArg (l : Bytes) (x : TS) : TS := gluedS l [44] (gluedS l (colW (nxt l (gluedS l [40] x).a 3)) ((gluedS l [40] x).eat l))
def lagS (l : Bytes) (x : TS) : TS := numberS l (nxt l x.a 4) true (x.eat l)
def tileS (l : Bytes) (x : TS) : TS := numberS l (1 + nxt l x.a 6) false (x.eat l)
def funS (l : Bytes) (x : TS) : TS :=
  let k := nxt l x.a 12
  let y := wordS l (Pq.kindTxt k) (x.eat l)
  if k < 3 then y
  else if k = 3 then gluedS l [41] (tileS l (gluedS l [40] y))
  else if k < 6 then gluedS l [41] (lagS l (colArg l y))
  else gluedS l [41] (frameS l (colArg l y))
def funsTo (l : Bytes) : Nat → TS → TS
  | 0, x => x
  | k + 1, x => funS l (commaS l k (funsTo l k x))
def byS (l : Bytes) (b : Bool) (x : TS) : TS := if b then colsS l false (wordS l [98, 121] x) else x
def mainS (l : Bytes) (b : Bool) (x : TS) : TS :=
  let y := wordS l [115, 104, 111, 119] (colsS l true (wordS l [111, 114, 100, 101, 114] (byS l b x)))
  funsTo l (1 + nxt l y.a 4) (y.eat l)
def topS (l : Bytes) (x : TS) : TS :=
  let y := wordS l [116, 111, 112] x
  let z := numberS l (nxt l y.a 6) true (y.eat l)
  let u := numberS l (nxt l z.a 3) true (wordS l [102, 114, 111, 109] (z.eat l))
  if nxt l z.a 3 = 0 then { u with plain := u.plain.take (u.plain.length - 7) } else u
def queryS (l : Bytes) (b t : Bool) : TS := if t then topS l (mainS l b ⟨0, [], []⟩) else mainS l b ⟨0, [], []⟩
theorem nxt_lt (l : Bytes) (a n : Nat) (h : 0 < n) : nxt l a n < n := by
  unfold nxt; split
  · exact Nat.mod_lt _ h
  · exact h
end Pk
end Go.Proofs.YtcoofnhdbejnpaaGreatDoor

/- Plain functions: the batches that paneskeep makes, and what it counts. -/
namespace Go.Proofs.YtcoofnhdbejnpaaGreatDoor
namespace Pk
open Pq (Bytes)
open Pv (R3 Chg)
/-- a row out of raw bytes, and where the bytes go on -/
def rowF (l : Bytes) (a : Nat) : R3 × Nat :=
  ((((nxt l a 3 : Nat) : Int), 10 * ((nxt l (adv l a) 4 : Nat) : Int), if nxt l (adv l (adv l (adv l a))) 20 = 1 then 1000 - 2000 * ((nxt l (adv l (adv l (adv l (adv l a)))) 2 : Nat) : Int) else ((nxt l (adv l (adv l a)) 5 : Nat) : Int) - 2),
   if nxt l (adv l (adv l (adv l a))) 20 = 1 then adv l (adv l (adv l (adv l (adv l a)))) else adv l (adv l (adv l (adv l a))))
theorem rowF_ok (l : Bytes) (a : Nat) : Pv.rowOk (rowF l a).1 = true := by
  have h1 := nxt_lt l a 3 (by omega)
  have h2 := nxt_lt l (adv l a) 4 (by omega)
  have h3 := nxt_lt l (adv l (adv l a)) 5 (by omega)
  have h4 := nxt_lt l (adv l (adv l (adv l (adv l a)))) 2 (by omega)
  unfold rowF Pv.rowOk Pv.between
  simp only [Bool.and_eq_true, decide_eq_true_eq]
  refine ⟨⟨by omega, by omega⟩, ⟨by omega, by omega⟩, ?_⟩
  split <;> omega
/-- all rows that the bytes can make -/
def allRows : List R3 := (List.range 3).flatMap (fun p => (List.range 4).flatMap (fun k => ([-2, -1, 0, 1, 2, 1000, -1000] : List Int).map (fun v => (((p : Nat) : Int), 10 * ((k : Nat) : Int), v))))
theorem allRows_len : allRows.length = 84 := by decide
theorem rowF_all (l : Bytes) (a : Nat) : (rowF l a).1 ∈ allRows := by
  have h1 := nxt_lt l a 3 (by omega)
  have h2 := nxt_lt l (adv l a) 4 (by omega)
  have h3 := nxt_lt l (adv l (adv l a)) 5 (by omega)
  have h4 := nxt_lt l (adv l (adv l (adv l (adv l a)))) 2 (by omega)
  unfold rowF allRows
  refine List.mem_flatMap.2 ⟨_, List.mem_range.2 h1, List.mem_flatMap.2 ⟨_, List.mem_range.2 h2, List.mem_map.2 ⟨_, ?_, rfl⟩⟩⟩
  generalize nxt l (adv l (adv l a)) 5 = x at *
  generalize nxt l (adv l (adv l (adv l (adv l a)))) 2 = y at *
  simp only [List.mem_cons, List.not_mem_nil, or_false]
  split <;> omega
theorem sub_len {α : Type} [DecidableEq α] : ∀ (L M : List α), L.Nodup → (∀ x ∈ L, x ∈ M) → L.length ≤ M.length
  | [], _, _, _ => Nat.zero_le _
  | x :: L, M, hn, h => by
    rw [List.nodup_cons] at hn
    have hx := h x (by simp)
    have := sub_len L (M.erase x) hn.2 (fun y hy => by
      have hne : y ≠ x := fun e => hn.1 (by rw [← e]; exact hy)
      exact (List.mem_erase_of_ne hne).2 (h y (by simp [hy])))
    rw [List.length_erase_of_mem hx] at this
    have hp : 0 < M.length := List.length_pos_of_mem hx
    simp; omega
/-- the place of a row among those that are counted -/
def idxF (r : R3) : List Chg → Nat
  | [] => 0
  | c :: l => if c.1 = r then 0 else idxF r l + 1
theorem idxF_le (r : R3) : ∀ l : List Chg, idxF r l ≤ l.length
  | [] => Nat.le_refl _
  | c :: l => by
    have := idxF_le r l
    rw [idxF]; split
    · simp
    · simp; omega
theorem idxF_is (r : R3) : ∀ (l : List Chg) (k : Nat), k ≤ l.length → (∀ j (hj : j < l.length), j < k → l[j].1 ≠ r) → (∀ h : k < l.length, l[k].1 = r) → idxF r l = k
  | [], k, hk, _, _ => by simp at hk; rw [hk]; rfl
  | c :: l, 0, _, _, h2 => by
    have e : c.1 = r := h2 (by simp)
    rw [idxF, if_pos e]
  | c :: l, k + 1, hk, h1, h2 => by
    have e : ¬ c.1 = r := h1 0 (by simp) (by omega)
    rw [idxF, if_neg e, idxF_is r l k (by simpa using hk) (fun j hj h => h1 (j + 1) (by simpa using hj) (by omega)) (fun h => h2 (by simpa using h))]
theorem idxF_hit (r : R3) : ∀ (l : List Chg) (h : idxF r l < l.length), l[idxF r l].1 = r
  | [], h => by simp at h
  | c :: l, h => by
    by_cases e : c.1 = r
    · have e1 : idxF r (c :: l) = 0 := by rw [idxF, if_pos e]
      have e2 : (c :: l)[idxF r (c :: l)] = c := by simp [e1]
      rw [e2]; exact e
    · have e1 : idxF r (c :: l) = idxF r l + 1 := by rw [idxF, if_neg e]
      have h2 : idxF r l < l.length := by rw [e1] at h; simpa using h
      have e2 : (c :: l)[idxF r (c :: l)] = l[idxF r l] := by simp [e1]
      rw [e2]; exact idxF_hit r l h2
theorem idxF_miss (r : R3) : ∀ (l : List Chg), idxF r l = l.length → ∀ c ∈ l, c.1 ≠ r
  | [], _, c, hc => by simp at hc
  | d :: l, h, c, hc => by
    rw [idxF] at h
    split at h
    · simp at h
    · rename_i hd
      rcases List.mem_cons.1 hc with rfl | hc
      · exact hd
      · exact idxF_miss r l (by simpa using h) c hc
/-- a place more, if the row is not there -/
def roomC (r : R3) (cs : List Chg) : List Chg := if idxF r cs < cs.length then cs else cs ++ [(r, 0)]
theorem roomC_at (r : R3) (cs : List Chg) : idxF r cs < (roomC r cs).length := by
  have := idxF_le r cs
  unfold roomC
  split
  · assumption
  · simp; omega
/-- the counts have each row once -/
def Once (cs : List Chg) : Prop := cs.Pairwise (fun x y => x.1 ≠ y.1)
theorem roomC_once {r : R3} {cs : List Chg} (h : Once cs) : Once (roomC r cs) := by
  unfold roomC
  split
  · exact h
  · rename_i hn
    unfold Once
    rw [List.pairwise_append]
    have hl := idxF_le r cs
    exact ⟨h, List.pairwise_singleton _ _, fun x hx y hy => by rw [List.mem_singleton.1 hy]; exact idxF_miss r cs (by omega) x hx⟩
theorem roomC_sum (r x : R3) (cs : List Chg) : Pv.sumOf (roomC r cs) x = Pv.sumOf cs x := by
  unfold roomC
  split
  · rfl
  · rw [Pv.sumOf_app]; simp [Pv.sumOf]
theorem roomC_get (r : R3) (cs : List Chg) : ((roomC r cs)[idxF r cs]'(roomC_at r cs)).1 = r := by
  have hl := idxF_le r cs
  by_cases h : idxF r cs < cs.length
  · have e : roomC r cs = cs := by unfold roomC; rw [if_pos h]
    simp only [e]
    exact idxF_hit r cs h
  · have e : roomC r cs = cs ++ [(r, 0)] := by unfold roomC; rw [if_neg h]
    have e2 : idxF r cs = cs.length := by omega
    simp only [e, e2]
    simp
theorem set_sum : ∀ (cs : List Chg) (j : Nat) (hj : j < cs.length) (m : Int) (x : R3), Pv.sumOf (cs.set j (cs[j].1, m)) x = Pv.sumOf cs x + (if cs[j].1 = x then m - cs[j].2 else 0)
  | [], j, hj, _, _ => by simp at hj
  | d :: l, 0, _, m, x => by
    simp only [List.set_cons_zero, Pv.sumOf, List.getElem_cons_zero]
    split <;> omega
  | d :: l, j + 1, hj, m, x => by
    have ih := set_sum l j (by simpa using hj) m x
    simp only [List.set_cons_succ, Pv.sumOf, List.getElem_cons_succ]
    rw [ih]; omega
theorem set_total : ∀ (cs : List Chg) (j : Nat) (hj : j < cs.length) (m : Int), Pv.totalF (cs.set j (cs[j].1, m)) = Pv.totalF cs + m - cs[j].2
  | [], j, hj, _ => by simp at hj
  | d :: l, 0, _, m => by simp only [List.set_cons_zero, Pv.totalF, List.map_cons, List.sum_cons, List.getElem_cons_zero]; omega
  | d :: l, j + 1, hj, m => by
    have ih := set_total l j (by simpa using hj) m
    simp only [List.set_cons_succ, Pv.totalF, List.map_cons, List.sum_cons, List.getElem_cons_succ] at ih ⊢
    omega
/-- what holds of the counts -/
structure CInv (cs : List Chg) (all : Int) : Prop where
  once : Once cs
  nn : ∀ c ∈ cs, 0 ≤ c.2
  tot : Pv.totalF cs = all
  top : all ≤ 40
  row : ∀ c ∈ cs, Pv.rowOk c.1 = true
  fin : ∀ c ∈ cs, c.1 ∈ allRows
theorem CInv.nil : CInv [] 0 := ⟨List.Pairwise.nil, fun _ h => by simp at h, rfl, by omega, fun _ h => by simp at h, fun _ h => by simp at h⟩
theorem CInv.len {cs : List Chg} {all : Int} (h : CInv cs all) : cs.length ≤ 84 := by
  have := sub_len (cs.map (·.1)) allRows (by rw [List.nodup_iff_pairwise_ne, List.pairwise_map]; exact h.once) (fun x hx => by obtain ⟨c, hc, rfl⟩ := List.mem_map.1 hx; exact h.fin c hc)
  rw [List.length_map, allRows_len] at this
  exact this
theorem CInv.room {cs : List Chg} {all : Int} (h : CInv cs all) {r : R3} (hr : Pv.rowOk r = true) (hf : r ∈ allRows) : CInv (roomC r cs) all := by
  refine ⟨roomC_once h.once, fun c hc => ?_, ?_, h.top, fun c hc => ?_, fun c hc => ?_⟩
  · unfold roomC at hc
    split at hc
    · exact h.nn c hc
    · rcases List.mem_append.1 hc with q | q
      · exact h.nn c q
      · rw [List.mem_singleton.1 q]; simp
  · unfold roomC
    split
    · exact h.tot
    · have : Pv.totalF (cs ++ [(r, 0)]) = Pv.totalF cs := by simp [Pv.totalF]
      rw [this]; exact h.tot
  · unfold roomC at hc
    split at hc
    · exact h.row c hc
    · rcases List.mem_append.1 hc with q | q
      · exact h.row c q
      · rw [List.mem_singleton.1 q]; exact hr
  · unfold roomC at hc
    split at hc
    · exact h.fin c hc
    · rcases List.mem_append.1 hc with q | q
      · exact h.fin c q
      · rw [List.mem_singleton.1 q]; exact hf
/-- the state of a batch: the counts, the copies of all, where the bytes go on, the changes so far -/
structure BS where
  cs : List Chg
  all : Int
  a : Nat
  l : List Chg
def kF (b : Bytes) (a : Nat) : Int := if nxt b (adv b a) 3 = 1 then -(1 + ((nxt b a 3 : Nat) : Int)) else 1 + ((nxt b a 3 : Nat) : Int)
def kkF (n k : Int) : Int := if n + k < 0 then -n else k
/-- one change more of a row, if it may be -/
def putB (r : R3) (k0 : Int) (a' : Nat) (s : BS) : BS :=
  if 40 < s.all + kkF ((roomC r s.cs)[idxF r s.cs]'(roomC_at r s.cs)).2 k0 ∨ kkF ((roomC r s.cs)[idxF r s.cs]'(roomC_at r s.cs)).2 k0 = 0 then ⟨roomC r s.cs, s.all, a', s.l⟩
  else ⟨(roomC r s.cs).set (idxF r s.cs) (r, ((roomC r s.cs)[idxF r s.cs]'(roomC_at r s.cs)).2 + kkF ((roomC r s.cs)[idxF r s.cs]'(roomC_at r s.cs)).2 k0), s.all + kkF ((roomC r s.cs)[idxF r s.cs]'(roomC_at r s.cs)).2 k0, a', s.l ++ [(r, kkF ((roomC r s.cs)[idxF r s.cs]'(roomC_at r s.cs)).2 k0)]⟩
def stepB (b : Bytes) (s : BS) : BS := putB (rowF b s.a).1 (kF b (rowF b s.a).2) (adv b (adv b (rowF b s.a).2)) s
def stepsB (b : Bytes) : Nat → BS → BS
  | 0, s => s
  | n + 1, s => stepsB b n (stepB b s)
def batchF (b : Bytes) (cs : List Chg) (all : Int) : BS := stepsB b (nxt b 0 9) ⟨cs, all, adv b 0, []⟩
/-- what holds of a batch as it is made -/
structure BInv (cs0 : List Chg) (s : BS) (m : Nat) : Prop where
  inv : CInv s.cs s.all
  sum : ∀ r, Pv.sumOf s.cs r = Pv.sumOf cs0 r + Pv.sumOf s.l r
  len : s.l.length ≤ m
  chg : ∀ c ∈ s.l, Pv.rowOk c.1 = true ∧ Pv.cntOk c.2 = true
theorem total_one {cs : List Chg} (hn : ∀ c ∈ cs, 0 ≤ c.2) : ∀ c ∈ cs, c.2 ≤ Pv.totalF cs := by
  induction cs with
  | nil => intro c hc; simp at hc
  | cons d l ih =>
    have i := ih (fun c hc => hn c (List.mem_cons_of_mem _ hc))
    have hd := hn d (List.mem_cons_self ..)
    have hl : 0 ≤ Pv.totalF l := by
      clear i ih
      induction l with
      | nil => simp [Pv.totalF]
      | cons e l ih =>
        have := ih (fun c hc => hn c (by simp at hc ⊢; rcases hc with h | h <;> simp [h]))
        have he := hn e (by simp)
        simp only [Pv.totalF, List.map_cons, List.sum_cons] at this ⊢; omega
    intro c hc
    have e : Pv.totalF (d :: l) = d.2 + Pv.totalF l := by simp [Pv.totalF]
    rcases List.mem_cons.1 hc with rfl | hc
    · omega
    · have := i c hc; omega
theorem BInv.put {cs0 : List Chg} {s : BS} {m : Nat} (h : BInv cs0 s m) {r : R3} (hr : Pv.rowOk r = true) (hf : r ∈ allRows) {k0 : Int} (hkb : -3 ≤ k0 ∧ k0 ≤ 3) (a' : Nat) : BInv cs0 (putB r k0 a' s) (m + 1) := by
  have hroom := h.inv.room hr hf
  have hat := roomC_at r s.cs
  have hget := roomC_get r s.cs
  unfold putB
  have hn0 := hroom.nn _ (List.getElem_mem hat)
  have hn1 := total_one hroom.nn _ (List.getElem_mem hat)
  rw [hroom.tot] at hn1
  have htop := hroom.top
  generalize hn : ((roomC r s.cs)[idxF r s.cs]'hat).2 = n at *
  have hkk : -40 ≤ kkF n (k0) ∧ kkF n (k0) ≤ 40 ∧ 0 ≤ n + kkF n (k0) := by unfold kkF; split <;> omega
  split
  · exact ⟨hroom, fun x => by rw [roomC_sum]; exact h.sum x, Nat.le_succ_of_le h.len, h.chg⟩
  · rename_i hno
    have he : (roomC r s.cs).set (idxF r s.cs) (r, n + kkF n (k0)) = (roomC r s.cs).set (idxF r s.cs) (((roomC r s.cs)[idxF r s.cs]'hat).1, n + kkF n (k0)) := by rw [hget]
    refine ⟨⟨?_, fun c hc => ?_, ?_, by show s.all + kkF n k0 ≤ 40; omega, fun c hc => ?_, fun c hc => ?_⟩, fun x => ?_, by simp; exact h.len, fun c hc => ?_⟩
    · show Once ((roomC r s.cs).set (idxF r s.cs) (r, n + kkF n (k0)))
      unfold Once
      rw [List.pairwise_iff_getElem]
      intro i j hi hj hij
      rw [List.length_set] at hi hj
      have hP := List.pairwise_iff_getElem.1 hroom.once
      have key : ∀ z (hz : z < (roomC r s.cs).length), (((roomC r s.cs).set (idxF r s.cs) (r, n + kkF n (k0)))[z]'(by rw [List.length_set]; exact hz)).1 = ((roomC r s.cs)[z]'hz).1 := fun z hz => by
        rw [List.getElem_set]
        split
        · rename_i q; subst q; exact hget.symm
        · rfl
      rw [key i hi, key j hj]
      exact hP i j hi hj hij
    · rcases List.mem_or_eq_of_mem_set hc with q | q
      · exact hroom.nn c q
      · rw [q]; exact hkk.2.2
    · show Pv.totalF ((roomC r s.cs).set (idxF r s.cs) (r, n + kkF n (k0))) = _
      rw [he, set_total, hroom.tot, hn]; simp only []; omega
    · rcases List.mem_or_eq_of_mem_set hc with q | q
      · exact hroom.row c q
      · rw [q]; exact hr
    · rcases List.mem_or_eq_of_mem_set hc with q | q
      · exact hroom.fin c q
      · rw [q]; exact hf
    · show Pv.sumOf ((roomC r s.cs).set (idxF r s.cs) (r, n + kkF n (k0))) x = _
      rw [he, set_sum, roomC_sum, h.sum x, hget, hn, Pv.sumOf_app]
      simp only [Pv.sumOf]
      split <;> omega
    · rcases List.mem_append.1 hc with q | q
      · exact h.chg c q
      · rw [List.mem_singleton.1 q]
        exact ⟨hr, (Pv.cnt_iff _).2 ⟨by simp only []; omega, by simp only []; omega, by simp only []; omega⟩⟩
theorem BInv.step {b : Bytes} {cs0 : List Chg} {s : BS} {m : Nat} (h : BInv cs0 s m) : BInv cs0 (stepB b s) (m + 1) := by
  have hk3 := nxt_lt b (rowF b s.a).2 3 (by omega)
  exact h.put (rowF_ok b s.a) (rowF_all b s.a) (by unfold kF; split <;> omega) _
theorem BInv.steps {b : Bytes} {cs0 : List Chg} : ∀ (n : Nat) {s : BS} {m : Nat}, BInv cs0 s m → BInv cs0 (stepsB b n s) (m + n)
  | 0, _, _, h => h
  | n + 1, s, m, h => by
    have := BInv.steps (b := b) n (h.step (b := b))
    rw [show m + 1 + n = m + (n + 1) by omega] at this
    exact this
theorem batch_inv (b : Bytes) {cs : List Chg} {all : Int} (h : CInv cs all) : BInv cs (batchF b cs all) 8 := by
  have h9 := nxt_lt b 0 9 (by omega)
  have h0 : BInv cs ⟨cs, all, adv b 0, []⟩ 0 := ⟨h, fun r => by simp [Pv.sumOf], Nat.le_refl _, fun c hc => by simp at hc⟩
  have := BInv.steps (b := b) (nxt b 0 9) h0
  exact ⟨this.inv, this.sum, Nat.le_trans this.len (by omega), this.chg⟩
end Pk
end Go.Proofs.YtcoofnhdbejnpaaGreatDoor

/- Plain functions: batches of the maker's are never refused; the table is what is counted; a batch and the same one turned. -/
namespace Go.Proofs.YtcoofnhdbejnpaaGreatDoor
namespace Pk
open Pq (Bytes)
open Pv (R3 Chg)
theorem total_none : ∀ (n : Nat) (l : List Chg), l.length ≤ n → (∀ r, Pv.sumOf l r = 0) → Pv.totalF l = 0
  | 0, l, hl, _ => by
    obtain rfl := List.eq_nil_of_length_eq_zero (Nat.le_zero.1 hl)
    rfl
  | n + 1, [], _, _ => rfl
  | n + 1, c :: l, hl, h => by
    have split : ∀ (m : List Chg) (r : R3), Pv.totalF m = Pv.sumOf m r + Pv.totalF (m.filter (fun d => decide (d.1 ≠ r))) := by
      intro m r
      induction m with
      | nil => rfl
      | cons d m ih =>
        have e : Pv.totalF (d :: m) = d.2 + Pv.totalF m := by simp [Pv.totalF]
        rw [e, Pv.sumOf]
        by_cases q : d.1 = r
        · rw [if_pos q, List.filter_cons_of_neg (by simp [q])]; omega
        · rw [if_neg q, List.filter_cons_of_pos (by simp [q])]
          have e2 : Pv.totalF (d :: m.filter (fun d => decide (d.1 ≠ r))) = d.2 + Pv.totalF (m.filter (fun d => decide (d.1 ≠ r))) := by simp [Pv.totalF]
          rw [e2]; omega
    have hsum : ∀ (m : List Chg) (r x : R3), Pv.sumOf (m.filter (fun d => decide (d.1 ≠ r))) x = if x = r then 0 else Pv.sumOf m x := by
      intro m r x
      induction m with
      | nil => simp [Pv.sumOf]
      | cons d m ih =>
        by_cases q : d.1 = r
        · rw [List.filter_cons_of_neg (by simp [q]), ih, Pv.sumOf, q]
          by_cases q2 : x = r
          · rw [if_pos q2, if_pos q2]
          · rw [if_neg q2, if_neg q2, if_neg (fun e => q2 e.symm)]; simp
        · rw [List.filter_cons_of_pos (by simp [q]), Pv.sumOf, ih, Pv.sumOf]
          by_cases q2 : x = r
          · rw [if_pos q2, if_pos q2, if_neg (fun e => q (e.trans q2))]; rfl
          · rw [if_neg q2, if_neg q2]
    rw [split (c :: l) c.1, h c.1]
    have hlen : ((c :: l).filter (fun d => decide (d.1 ≠ c.1))).length ≤ n := by
      rw [List.filter_cons_of_neg (by simp)]
      have := List.length_filter_le (fun d => decide (d.1 ≠ c.1)) l
      simp at hl; omega
    rw [total_none n _ hlen (fun r => by rw [hsum]; split; rfl; exact h r)]
    rfl
theorem neg_sum (l : List Chg) (r : R3) : Pv.sumOf (l.map (fun c => (c.1, -c.2))) r = -(Pv.sumOf l r) := by
  induction l with
  | nil => rfl
  | cons c l ih =>
    rw [List.map_cons, Pv.sumOf, Pv.sumOf, ih]
    split <;> simp <;> omega
theorem neg_total (l : List Chg) : Pv.totalF (l.map (fun c => (c.1, -c.2))) = -(Pv.totalF l) := by
  induction l with
  | nil => rfl
  | cons c l ih =>
    simp only [Pv.totalF, List.map_cons, List.sum_cons] at ih ⊢
    rw [ih]; omega
theorem total_eq {a b : List Chg} (h : ∀ r, Pv.sumOf a r = Pv.sumOf b r) : Pv.totalF a = Pv.totalF b := by
  have h0 := total_none _ (a ++ b.map (fun c => (c.1, -c.2))) (Nat.le_refl _) (fun r => by rw [Pv.sumOf_app, neg_sum, h r]; omega)
  have e : Pv.totalF (a ++ b.map (fun c => (c.1, -c.2))) = Pv.totalF a + Pv.totalF (b.map (fun c => (c.1, -c.2))) := by simp [Pv.totalF]
  rw [e, neg_total] at h0
  omega
theorem sum_nn {cs : List Chg} (h : ∀ c ∈ cs, 0 ≤ c.2) (r : R3) : 0 ≤ Pv.sumOf cs r := by
  induction cs with
  | nil => simp [Pv.sumOf]
  | cons d t ih =>
    have i := ih (fun d hd => h d (List.mem_cons_of_mem _ hd))
    have hd := h d (List.mem_cons_self ..)
    rw [Pv.sumOf]
    split <;> omega
theorem scan_ok : ∀ (l : List Chg) (i : Nat), (∀ c ∈ l, Pv.rowOk c.1 = true ∧ Pv.cntOk c.2 = true) → Pv.scanF i l = none
  | [], _, _ => rfl
  | c :: l, i, h => by
    have hc := h c (List.mem_cons_self ..)
    rw [Pv.scanF, if_neg (by simp [hc.1]), if_neg (by simp [hc.2])]
    exact scan_ok l (i + 1) (fun d hd => h d (List.mem_cons_of_mem _ hd))
theorem less_ok : ∀ (l t : List Chg) (i : Nat), (∀ c ∈ l, t.any (fun d => decide (d.1 = c.1) && decide (d.2 < 0)) = false) → Pv.lessF t i l = none
  | [], _, _, _ => rfl
  | c :: l, t, i, h => by
    rw [Pv.lessF, if_neg (by rw [h c (List.mem_cons_self ..)]; simp)]
    exact less_ok l t (i + 1) (fun d hd => h d (List.mem_cons_of_mem _ hd))
/-- a table and the counts say the same -/
def Same (t cs : List Chg) : Prop := ∀ r, Pv.sumOf t r = Pv.sumOf cs r
/-- a batch behind which no row has fewer copies than none, and there are not too many: it is not refused -/
theorem not_refused {t l cs' : List Chg} (hlen : l.length ≤ 50) (hchg : ∀ c ∈ l, Pv.rowOk c.1 = true ∧ Pv.cntOk c.2 = true) (hsum : ∀ r, Pv.sumOf t r + Pv.sumOf l r = Pv.sumOf cs' r) (hnn : ∀ c ∈ cs', 0 ≤ c.2) (htot : Pv.totalF cs' ≤ 40) : Pv.refusedF t l = (0, 0) ∧ Same (Pv.tableF t l) cs' := by
  have hs : Same (Pv.tableF t l) cs' := fun r => by rw [Pv.tableF_sum]; exact hsum r
  refine ⟨?_, hs⟩
  have h1 : Pv.scanF 0 l = none := scan_ok l 0 hchg
  have h2 : Pv.lessF (Pv.tableF t l) 0 l = none := less_ok l _ 0 (fun c hc => by
    rw [Pv.less_any, hsum]
    have := sum_nn hnn c.1
    simp; omega)
  rw [Pv.refused_end (by omega) h1 h2, total_eq hs, if_neg (by omega)]
theorem batch_ok (b : Bytes) {t cs : List Chg} {all : Int} (h : CInv cs all) (hs : Same t cs) : Pv.refusedF t (batchF b cs all).l = (0, 0) ∧ Same (Pv.tableF t (batchF b cs all).l) (batchF b cs all).cs ∧ CInv (batchF b cs all).cs (batchF b cs all).all ∧ (batchF b cs all).l.length ≤ 8 := by
  have hb := batch_inv b h
  have := not_refused (t := t) (l := (batchF b cs all).l) (cs' := (batchF b cs all).cs) (by have := hb.len; omega) hb.chg (fun r => by rw [hs r]; exact (hb.sum r).symm) hb.inv.nn (by rw [hb.inv.tot]; exact hb.inv.top)
  exact ⟨this.1, this.2, hb.inv, hb.len⟩
/-- all numbers of copies turned -/
def turnF (l : List Chg) : List Chg := l.map (fun c => (c.1, -c.2))
theorem turn_ok {t l cs : List Chg} {all : Int} (ht : Pv.TInv t) (h : CInv cs all) (hs : Same t cs) (hlen : l.length ≤ 8) (hchg : ∀ c ∈ l, Pv.rowOk c.1 = true ∧ Pv.cntOk c.2 = true) : Pv.refusedF (Pv.tableF t l) (turnF l) = (0, 0) ∧ Pv.tableF (Pv.tableF t l) (turnF l) = t := by
  have hx : ∀ r, Pv.sumOf (Pv.tableF t l) r + Pv.sumOf (turnF l) r = Pv.sumOf cs r := fun r => by
    rw [Pv.tableF_sum, show turnF l = l.map (fun c => (c.1, -c.2)) from rfl, neg_sum, hs r]; omega
  have hn := not_refused (t := Pv.tableF t l) (l := turnF l) (cs' := cs) (by simp [turnF]; omega) (fun c hc => by
    obtain ⟨d, hd, rfl⟩ := List.mem_map.1 hc
    obtain ⟨h1, h2⟩ := hchg d hd
    rw [Pv.cnt_iff] at h2
    exact ⟨h1, (Pv.cnt_iff _).2 ⟨by simp only []; omega, by simp only []; omega, by simp only []; omega⟩⟩) hx h.nn (by rw [h.tot]; exact h.top)
  refine ⟨hn.1, Pv.IsTable.ext (Pv.tableF_is _ _) ht.tab (fun r => ?_)⟩
  rw [hn.2 r, hs r]
/-- out rows with their numbers turned -/
def turnO (l : List Pv.Out) : List Pv.Out := l.map (fun o => (o.1, o.2.1, -o.2.2))
theorem turnO_sum (l : List Pv.Out) (k : Pv.Key) : Pv.sumO (turnO l) k = -(Pv.sumO l k) := by
  unfold turnO
  induction l with
  | nil => rfl
  | cons c l ih =>
    rw [List.map_cons, Pv.sumO, Pv.sumO, ih]
    have : Pv.keyO (c.1, c.2.1, -c.2.2) = Pv.keyO c := rfl
    rw [this]
    split <;> simp <;> omega
/-- what Apply tells: in order, nothing without copies, the difference of the views -/
theorem applied_spec {q : Pv.Qry} {t b : List Chg} (ht : Pv.TInv t) (h0 : (Pv.refusedF t b).1 = 0) : Pv.SrtO (Pv.appliedF q t b) ∧ (∀ x ∈ Pv.appliedF q t b, x.2.2 ≠ 0 ∧ x.2.1.length = q.fs.length) ∧ ∀ k, Pv.sumO (Pv.appliedF q t b) k = Pv.cntT q (Pv.tableF t b) k - Pv.cntT q t k := by
  have ht2 := (ht.next h0).1
  obtain ⟨m, hf⟩ := Pv.shownF_fit (q := q) (t := Pv.tableF t b) (sign := 1) (by omega) (by omega) (Pv.Fit.nil _)
  obtain ⟨m2, hf2⟩ := Pv.shownF_fit (q := q) (t := t) (sign := -1) (by omega) (by omega) hf
  have hF := Pv.listF_spec hf2
  have e : Pv.appliedF q t b = Pv.listF (Pv.shownF q t (-1) (Pv.shownF q (Pv.tableF t b) 1 [])) := by unfold Pv.appliedF; rw [if_pos h0]
  rw [e]
  refine ⟨hF.1, hF.2.1, fun k => ?_⟩
  rw [hF.2.2, Pv.shownF_sum ht (by omega) (by omega) hf, Pv.shownF_sum ht2 (by omega) (by omega) (Pv.Fit.nil _)]
  simp [Pv.sumO]; omega
/-- the two answers are each other's, turned -/
theorem undone_outs {q : Pv.Qry} {t l cs : List Chg} {all : Int} (ht : Pv.TInv t) (h : CInv cs all) (hs : Same t cs) (h0 : (Pv.refusedF t l).1 = 0) (hlen : l.length ≤ 8) (hchg : ∀ c ∈ l, Pv.rowOk c.1 = true ∧ Pv.cntOk c.2 = true) : Pv.appliedF q t l = turnO (Pv.appliedF q (Pv.tableF t l) (turnF l)) := by
  obtain ⟨hr, ht2⟩ := turn_ok ht h hs hlen hchg
  have a1 := applied_spec (q := q) ht h0
  have a2 := applied_spec (q := q) (ht.next h0).1 (b := turnF l) (by rw [hr])
  rw [ht2] at a2
  refine Pv.outs_eq a1.1 ?_ (fun x hx => (a1.2.1 x hx).1) (fun x hx => ?_) (fun k => ?_)
  · unfold turnO Pv.SrtO
    rw [List.pairwise_map]
    exact a2.1.imp (fun {x y} hxy => (Pv.lowO_key (a := (x.1, x.2.1, -x.2.2)) (b := (y.1, y.2.1, -y.2.2)) (a' := x) (b' := y) rfl rfl).trans hxy)
  · obtain ⟨z, hz, rfl⟩ := List.mem_map.1 hx
    have := (a2.2.1 z hz).1
    simp only []; omega
  · rw [turnO_sum, a1.2.2, a2.2.2]; omega
end Pk
end Go.Proofs.YtcoofnhdbejnpaaGreatDoor

