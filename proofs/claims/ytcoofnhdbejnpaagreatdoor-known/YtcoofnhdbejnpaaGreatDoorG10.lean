/- Plain functions: the batches that paneskeep makes, and what it counts. -/
import Derived.Test.YtcoofnhdbejnpaaGreatDoorG05
import Derived.Test.YtcoofnhdbejnpaaGreatDoorG06
namespace Go.Proofs.YtcoofnhdbejnpaaGreatDoor
namespace Pk
open Pq (Bytes)
open Pv (R3 Chg)
/-- a row out of raw bytes, and where the bytes go on -/
def rowF (l : Bytes) (a : Nat) : R3 × Nat :=
  ((((nxt l a 3 : Nat) : Int), 10 * ((nxt l (adv l a) 4 : Nat) : Int), if nxt l (adv l (adv l (adv l a))) 20 = 1 then 1000 - 2000 * ((nxt l (adv l (adv l (adv l (adv l a)))) 2 : Nat) : Int) else ((nxt l (adv l (adv l a)) 5 : Nat) : Int) - 2),
   if nxt l (adv l (adv l (adv l a))) 20 = 1 then adv l (adv l (adv l (adv l (adv l a)))) else adv l (adv l (adv l (adv l a))))
theorem rowF_ok (l : Bytes) (a : Nat) : Pv.rowOk (rowF l a).1 = true := by
  have h1 := nxt_lt l a 3 (by omega)
  have h2 := nxt_lt l (adv l a) 4 (by omega)
  have h3 := nxt_lt l (adv l (adv l a)) 5 (by omega)
  have h4 := nxt_lt l (adv l (adv l (adv l (adv l a)))) 2 (by omega)
  unfold rowF Pv.rowOk Pv.between
  simp only [Bool.and_eq_true, decide_eq_true_eq]
  refine ⟨⟨by omega, by omega⟩, ⟨by omega, by omega⟩, ?_⟩
  split <;> omega
/-- all rows that the bytes can make -/
def allRows : List R3 := (List.range 3).flatMap (fun p => (List.range 4).flatMap (fun k => ([-2, -1, 0, 1, 2, 1000, -1000] : List Int).map (fun v => (((p : Nat) : Int), 10 * ((k : Nat) : Int), v))))
theorem allRows_len : allRows.length = 84 := by decide
theorem rowF_all (l : Bytes) (a : Nat) : (rowF l a).1 ∈ allRows := by
  have h1 := nxt_lt l a 3 (by omega)
  have h2 := nxt_lt l (adv l a) 4 (by omega)
  have h3 := nxt_lt l (adv l (adv l a)) 5 (by omega)
  have h4 := nxt_lt l (adv l (adv l (adv l (adv l a)))) 2 (by omega)
  unfold rowF allRows
  refine List.mem_flatMap.2 ⟨_, List.mem_range.2 h1, List.mem_flatMap.2 ⟨_, List.mem_range.2 h2, List.mem_map.2 ⟨_, ?_, rfl⟩⟩⟩
  generalize nxt l (adv l (adv l a)) 5 = x at *
  generalize nxt l (adv l (adv l (adv l (adv l a)))) 2 = y at *
  simp only [List.mem_cons, List.not_mem_nil, or_false]
  split <;> omega
theorem sub_len {α : Type} [DecidableEq α] : ∀ (L M : List α), L.Nodup → (∀ x ∈ L, x ∈ M) → L.length ≤ M.length
  | [], _, _, _ => Nat.zero_le _
  | x :: L, M, hn, h => by
    rw [List.nodup_cons] at hn
    have hx := h x (by simp)
    have := sub_len L (M.erase x) hn.2 (fun y hy => by
      have hne : y ≠ x := fun e => hn.1 (by rw [← e]; exact hy)
      exact (List.mem_erase_of_ne hne).2 (h y (by simp [hy])))
    rw [List.length_erase_of_mem hx] at this
    have hp : 0 < M.length := List.length_pos_of_mem hx
    simp; omega
/-- the place of a row among those that are counted -/
def idxF (r : R3) : List Chg → Nat
  | [] => 0
  | c :: l => if c.1 = r then 0 else idxF r l + 1
theorem idxF_le (r : R3) : ∀ l : List Chg, idxF r l ≤ l.length
  | [] => Nat.le_refl _
  | c :: l => by
    have := idxF_le r l
    rw [idxF]; split
    · simp
    · simp; omega
theorem idxF_is (r : R3) : ∀ (l : List Chg) (k : Nat), k ≤ l.length → (∀ j (hj : j < l.length), j < k → l[j].1 ≠ r) → (∀ h : k < l.length, l[k].1 = r) → idxF r l = k
  | [], k, hk, _, _ => by simp at hk; rw [hk]; rfl
  | c :: l, 0, _, _, h2 => by
    have e : c.1 = r := h2 (by simp)
    rw [idxF, if_pos e]
  | c :: l, k + 1, hk, h1, h2 => by
    have e : ¬ c.1 = r := h1 0 (by simp) (by omega)
    rw [idxF, if_neg e, idxF_is r l k (by simpa using hk) (fun j hj h => h1 (j + 1) (by simpa using hj) (by omega)) (fun h => h2 (by simpa using h))]
theorem idxF_hit (r : R3) : ∀ (l : List Chg) (h : idxF r l < l.length), l[idxF r l].1 = r
  | [], h => by simp at h
  | c :: l, h => by
    by_cases e : c.1 = r
    · have e1 : idxF r (c :: l) = 0 := by rw [idxF, if_pos e]
      have e2 : (c :: l)[idxF r (c :: l)] = c := by simp [e1]
      rw [e2]; exact e
    · have e1 : idxF r (c :: l) = idxF r l + 1 := by rw [idxF, if_neg e]
      have h2 : idxF r l < l.length := by rw [e1] at h; simpa using h
      have e2 : (c :: l)[idxF r (c :: l)] = l[idxF r l] := by simp [e1]
      rw [e2]; exact idxF_hit r l h2
theorem idxF_miss (r : R3) : ∀ (l : List Chg), idxF r l = l.length → ∀ c ∈ l, c.1 ≠ r
  | [], _, c, hc => by simp at hc
  | d :: l, h, c, hc => by
    rw [idxF] at h
    split at h
    · simp at h
    · rename_i hd
      rcases List.mem_cons.1 hc with rfl | hc
      · exact hd
      · exact idxF_miss r l (by simpa using h) c hc
/-- a place more, if the row is not there -/
def roomC (r : R3) (cs : List Chg) : List Chg := if idxF r cs < cs.length then cs else cs ++ [(r, 0)]
theorem roomC_at (r : R3) (cs : List Chg) : idxF r cs < (roomC r cs).length := by
  have := idxF_le r cs
  unfold roomC
  split
  · assumption
  · simp; omega
/-- the counts have each row once -/
def Once (cs : List Chg) : Prop := cs.Pairwise (fun x y => x.1 ≠ y.1)
theorem roomC_once {r : R3} {cs : List Chg} (h : Once cs) : Once (roomC r cs) := by
  unfold roomC
  split
  · exact h
  · rename_i hn
    unfold Once
    rw [List.pairwise_append]
    have hl := idxF_le r cs
    exact ⟨h, List.pairwise_singleton _ _, fun x hx y hy => by rw [List.mem_singleton.1 hy]; exact idxF_miss r cs (by omega) x hx⟩
theorem roomC_sum (r x : R3) (cs : List Chg) : Pv.sumOf (roomC r cs) x = Pv.sumOf cs x := by
  unfold roomC
  split
  · rfl
  · rw [Pv.sumOf_app]; simp [Pv.sumOf]
theorem roomC_get (r : R3) (cs : List Chg) : ((roomC r cs)[idxF r cs]'(roomC_at r cs)).1 = r := by
  have hl := idxF_le r cs
  by_cases h : idxF r cs < cs.length
  · have e : roomC r cs = cs := by unfold roomC; rw [if_pos h]
    simp only [e]
    exact idxF_hit r cs h
  · have e : roomC r cs = cs ++ [(r, 0)] := by unfold roomC; rw [if_neg h]
    have e2 : idxF r cs = cs.length := by omega
    simp only [e, e2]
    simp
theorem set_sum : ∀ (cs : List Chg) (j : Nat) (hj : j < cs.length) (m : Int) (x : R3), Pv.sumOf (cs.set j (cs[j].1, m)) x = Pv.sumOf cs x + (if cs[j].1 = x then m - cs[j].2 else 0)
  | [], j, hj, _, _ => by simp at hj
  | d :: l, 0, _, m, x => by
    simp only [List.set_cons_zero, Pv.sumOf, List.getElem_cons_zero]
    split <;> omega
  | d :: l, j + 1, hj, m, x => by
    have ih := set_sum l j (by simpa using hj) m x
    simp only [List.set_cons_succ, Pv.sumOf, List.getElem_cons_succ]
    rw [ih]; omega
theorem set_total : ∀ (cs : List Chg) (j : Nat) (hj : j < cs.length) (m : Int), Pv.totalF (cs.set j (cs[j].1, m)) = Pv.totalF cs + m - cs[j].2
  | [], j, hj, _ => by simp at hj
  | d :: l, 0, _, m => by simp only [List.set_cons_zero, Pv.totalF, List.map_cons, List.sum_cons, List.getElem_cons_zero]; omega
  | d :: l, j + 1, hj, m => by
    have ih := set_total l j (by simpa using hj) m
    simp only [List.set_cons_succ, Pv.totalF, List.map_cons, List.sum_cons, List.getElem_cons_succ] at ih ⊢
    omega
/-- what holds of the counts -/
structure CInv (cs : List Chg) (all : Int) : Prop where
  once : Once cs
  nn : ∀ c ∈ cs, 0 ≤ c.2
  tot : Pv.totalF cs = all
  top : all ≤ 40
  row : ∀ c ∈ cs, Pv.rowOk c.1 = true
  fin : ∀ c ∈ cs, c.1 ∈ allRows
theorem CInv.nil : CInv [] 0 := ⟨List.Pairwise.nil, fun _ h => by simp at h, rfl, by omega, fun _ h => by simp at h, fun _ h => by simp at h⟩
/-- what holds of the counts that begin with so many copies of others -/
structure DInv (b0 : Int) (cs : List Chg) (all : Int) : Prop where
  once : Once cs
  nn : ∀ c ∈ cs, 0 ≤ c.2
  tot : Pv.totalF cs + b0 = all
  base : 0 ≤ b0
  top : all ≤ 40
  row : ∀ c ∈ cs, Pv.rowOk c.1 = true
  fin : ∀ c ∈ cs, c.1 ∈ allRows
theorem CInv.d {cs : List Chg} {all : Int} (h : CInv cs all) : DInv 0 cs all := ⟨h.once, h.nn, by rw [h.tot]; omega, Int.le_refl _, h.top, h.row, h.fin⟩
theorem DInv.c {cs : List Chg} {all : Int} (h : DInv 0 cs all) : CInv cs all := ⟨h.once, h.nn, by have := h.tot; omega, h.top, h.row, h.fin⟩
theorem DInv.nil {b0 : Int} (h : 0 ≤ b0) (h2 : b0 ≤ 40) : DInv b0 [] b0 := ⟨List.Pairwise.nil, fun _ h => by simp at h, by simp [Pv.totalF], h, h2, fun _ h => by simp at h, fun _ h => by simp at h⟩
theorem DInv.len {base : Int} {cs : List Chg} {all : Int} (h : DInv base cs all) : cs.length ≤ 84 := by
  have := sub_len (cs.map (·.1)) allRows (by rw [List.nodup_iff_pairwise_ne, List.pairwise_map]; exact h.once) (fun x hx => by obtain ⟨c, hc, rfl⟩ := List.mem_map.1 hx; exact h.fin c hc)
  rw [List.length_map, allRows_len] at this
  exact this
theorem DInv.room {base : Int} {cs : List Chg} {all : Int} (h : DInv base cs all) {r : R3} (hr : Pv.rowOk r = true) (hf : r ∈ allRows) : DInv base (roomC r cs) all := by
  refine ⟨roomC_once h.once, fun c hc => ?_, ?_, h.base, h.top, fun c hc => ?_, fun c hc => ?_⟩
  · unfold roomC at hc
    split at hc
    · exact h.nn c hc
    · rcases List.mem_append.1 hc with q | q
      · exact h.nn c q
      · rw [List.mem_singleton.1 q]; simp
  · unfold roomC
    split
    · exact h.tot
    · have : Pv.totalF (cs ++ [(r, 0)]) = Pv.totalF cs := by simp [Pv.totalF]
      rw [this]; exact h.tot
  · unfold roomC at hc
    split at hc
    · exact h.row c hc
    · rcases List.mem_append.1 hc with q | q
      · exact h.row c q
      · rw [List.mem_singleton.1 q]; exact hr
  · unfold roomC at hc
    split at hc
    · exact h.fin c hc
    · rcases List.mem_append.1 hc with q | q
      · exact h.fin c q
      · rw [List.mem_singleton.1 q]; exact hf
theorem CInv.len {cs : List Chg} {all : Int} (h : CInv cs all) : cs.length ≤ 84 := h.d.len
theorem CInv.room {cs : List Chg} {all : Int} (h : CInv cs all) {r : R3} (hr : Pv.rowOk r = true) (hf : r ∈ allRows) : CInv (roomC r cs) all := (h.d.room hr hf).c
/-- the state of a batch: the counts, the copies of all, where the bytes go on, the changes so far -/
structure BS where
  cs : List Chg
  all : Int
  a : Nat
  l : List Chg
def kF (b : Bytes) (a : Nat) : Int := if nxt b (adv b a) 3 = 1 then -(1 + ((nxt b a 3 : Nat) : Int)) else 1 + ((nxt b a 3 : Nat) : Int)
def kkF (n k : Int) : Int := if n + k < 0 then -n else k
/-- one change more of a row, if it may be -/
def putB (r : R3) (k0 : Int) (a' : Nat) (s : BS) : BS :=
  if 40 < s.all + kkF ((roomC r s.cs)[idxF r s.cs]'(roomC_at r s.cs)).2 k0 ∨ kkF ((roomC r s.cs)[idxF r s.cs]'(roomC_at r s.cs)).2 k0 = 0 then ⟨roomC r s.cs, s.all, a', s.l⟩
  else ⟨(roomC r s.cs).set (idxF r s.cs) (r, ((roomC r s.cs)[idxF r s.cs]'(roomC_at r s.cs)).2 + kkF ((roomC r s.cs)[idxF r s.cs]'(roomC_at r s.cs)).2 k0), s.all + kkF ((roomC r s.cs)[idxF r s.cs]'(roomC_at r s.cs)).2 k0, a', s.l ++ [(r, kkF ((roomC r s.cs)[idxF r s.cs]'(roomC_at r s.cs)).2 k0)]⟩
def stepB (b : Bytes) (s : BS) : BS := putB (rowF b s.a).1 (kF b (rowF b s.a).2) (adv b (adv b (rowF b s.a).2)) s
def stepsB (b : Bytes) : Nat → BS → BS
  | 0, s => s
  | n + 1, s => stepsB b n (stepB b s)
def batchF (b : Bytes) (cs : List Chg) (all : Int) : BS := stepsB b (nxt b 0 9) ⟨cs, all, adv b 0, []⟩
structure DBInv (b0 : Int) (cs0 : List Chg) (s : BS) (m : Nat) : Prop where
  inv : DInv b0 s.cs s.all
  sum : ∀ r, Pv.sumOf s.cs r = Pv.sumOf cs0 r + Pv.sumOf s.l r
  len : s.l.length ≤ m
  chg : ∀ c ∈ s.l, (Pv.rowOk c.1 = true ∧ Pv.cntOk c.2 = true) ∧ c.1 ∈ allRows
theorem total_one {cs : List Chg} (hn : ∀ c ∈ cs, 0 ≤ c.2) : ∀ c ∈ cs, c.2 ≤ Pv.totalF cs := by
  induction cs with
  | nil => intro c hc; simp at hc
  | cons d l ih =>
    have i := ih (fun c hc => hn c (List.mem_cons_of_mem _ hc))
    have hd := hn d (List.mem_cons_self ..)
    have hl : 0 ≤ Pv.totalF l := by
      clear i ih
      induction l with
      | nil => simp [Pv.totalF]
      | cons e l ih =>
        have := ih (fun c hc => hn c (by simp at hc ⊢; rcases hc with h | h <;> simp [h]))
        have he := hn e (by simp)
        simp only [Pv.totalF, List.map_cons, List.sum_cons] at this ⊢; omega
    intro c hc
    have e : Pv.totalF (d :: l) = d.2 + Pv.totalF l := by simp [Pv.totalF]
    rcases List.mem_cons.1 hc with rfl | hc
    · omega
    · have := i c hc; omega
theorem DBInv.put {b0 : Int} {cs0 : List Chg} {s : BS} {m : Nat} (h : DBInv b0 cs0 s m) {r : R3} (hr : Pv.rowOk r = true) (hf : r ∈ allRows) {k0 : Int} (hkb : -3 ≤ k0 ∧ k0 ≤ 3) (a' : Nat) : DBInv b0 cs0 (putB r k0 a' s) (m + 1) := by
  have hroom := h.inv.room hr hf
  have hat := roomC_at r s.cs
  have hget := roomC_get r s.cs
  unfold putB
  have hn0 := hroom.nn _ (List.getElem_mem hat)
  have hn1 := total_one hroom.nn _ (List.getElem_mem hat)
  have htop := hroom.top
  have htot := hroom.tot
  have hbase := hroom.base
  replace hn1 : ((roomC r s.cs)[idxF r s.cs]'hat).2 ≤ s.all := by omega
  generalize hn : ((roomC r s.cs)[idxF r s.cs]'hat).2 = n at *
  have hkk : -40 ≤ kkF n (k0) ∧ kkF n (k0) ≤ 40 ∧ 0 ≤ n + kkF n (k0) := by unfold kkF; split <;> omega
  split
  · exact ⟨hroom, fun x => by rw [roomC_sum]; exact h.sum x, Nat.le_succ_of_le h.len, h.chg⟩
  · rename_i hno
    have he : (roomC r s.cs).set (idxF r s.cs) (r, n + kkF n (k0)) = (roomC r s.cs).set (idxF r s.cs) (((roomC r s.cs)[idxF r s.cs]'hat).1, n + kkF n (k0)) := by rw [hget]
    refine ⟨⟨?_, fun c hc => ?_, ?_, hroom.base, by show s.all + kkF n k0 ≤ 40; omega, fun c hc => ?_, fun c hc => ?_⟩, fun x => ?_, by simp; exact h.len, fun c hc => ?_⟩
    · show Once ((roomC r s.cs).set (idxF r s.cs) (r, n + kkF n (k0)))
      unfold Once
      rw [List.pairwise_iff_getElem]
      intro i j hi hj hij
      rw [List.length_set] at hi hj
      have hP := List.pairwise_iff_getElem.1 hroom.once
      have key : ∀ z (hz : z < (roomC r s.cs).length), (((roomC r s.cs).set (idxF r s.cs) (r, n + kkF n (k0)))[z]'(by rw [List.length_set]; exact hz)).1 = ((roomC r s.cs)[z]'hz).1 := fun z hz => by
        rw [List.getElem_set]
        split
        · rename_i q; subst q; exact hget.symm
        · rfl
      rw [key i hi, key j hj]
      exact hP i j hi hj hij
    · rcases List.mem_or_eq_of_mem_set hc with q | q
      · exact hroom.nn c q
      · rw [q]; exact hkk.2.2
    · show Pv.totalF ((roomC r s.cs).set (idxF r s.cs) (r, n + kkF n (k0))) + b0 = _
      rw [he, set_total, hn]; simp only []; omega
    · rcases List.mem_or_eq_of_mem_set hc with q | q
      · exact hroom.row c q
      · rw [q]; exact hr
    · rcases List.mem_or_eq_of_mem_set hc with q | q
      · exact hroom.fin c q
      · rw [q]; exact hf
    · show Pv.sumOf ((roomC r s.cs).set (idxF r s.cs) (r, n + kkF n (k0))) x = _
      rw [he, set_sum, roomC_sum, h.sum x, hget, hn, Pv.sumOf_app]
      simp only [Pv.sumOf]
      split <;> omega
    · rcases List.mem_append.1 hc with q | q
      · exact h.chg c q
      · rw [List.mem_singleton.1 q]
        exact ⟨⟨hr, (Pv.cnt_iff _).2 ⟨by simp only []; omega, by simp only []; omega, by simp only []; omega⟩⟩, hf⟩
theorem DBInv.step {b0 : Int} {b : Bytes} {cs0 : List Chg} {s : BS} {m : Nat} (h : DBInv b0 cs0 s m) : DBInv b0 cs0 (stepB b s) (m + 1) := by
  have hk3 := nxt_lt b (rowF b s.a).2 3 (by omega)
  exact h.put (rowF_ok b s.a) (rowF_all b s.a) (by unfold kF; split <;> omega) _
theorem DBInv.steps {b0 : Int} {b : Bytes} {cs0 : List Chg} : ∀ (n : Nat) {s : BS} {m : Nat}, DBInv b0 cs0 s m → DBInv b0 cs0 (stepsB b n s) (m + n)
  | 0, _, _, h => h
  | n + 1, s, m, h => by
    have := DBInv.steps (b := b) n (h.step (b := b))
    rw [show m + 1 + n = m + (n + 1) by omega] at this
    exact this
end Pk
end Go.Proofs.YtcoofnhdbejnpaaGreatDoor

/- Plain functions: batches of the maker's are never refused; the table is what is counted; a batch and the same one turned. -/
namespace Go.Proofs.YtcoofnhdbejnpaaGreatDoor
namespace Pk
open Pq (Bytes)
open Pv (R3 Chg)
/-- a table and the counts say the same -/
def Same (t cs : List Chg) : Prop := ∀ r, Pv.sumOf t r = Pv.sumOf cs r
end Pk
end Go.Proofs.YtcoofnhdbejnpaaGreatDoor

