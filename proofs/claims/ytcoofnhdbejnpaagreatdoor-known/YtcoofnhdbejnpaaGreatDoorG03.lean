/- Plain functions: FUNCs, step by step. -/
import Derived.Test.YtcoofnhdbejnpaaGreatDoorG02
import Derived.Test.YtcoofnhdbejnpaaGreatDoorG00
namespace Go.Proofs.YtcoofnhdbejnpaaGreatDoor
namespace Pv
open Pq Pr
theorem groups_snoc (ks : List (Nat × Bool)) : ∀ (l : List Cpy) (y x : Cpy), groupsF ks (l ++ [y] ++ [x]) = groupsF ks (l ++ [y]) + (if beforeK ks y.1 x.1 then 1 else 0)
  | [], y, x => by simp [groupsF]
  | [a], y, x => by simp [groupsF]; omega
  | a :: b :: l, y, x => by
    have ih := groups_snoc ks (b :: l) y x
    simp only [List.cons_append, groupsF] at ih ⊢
    omega
theorem groups_take (ks : List (Nat × Bool)) (l : List Cpy) (k : Nat) (h : k + 1 < l.length) : groupsF ks (l.take (k + 1 + 1)) = groupsF ks (l.take (k + 1)) + (if beforeK ks l[k].1 l[k + 1].1 then 1 else 0) := by
  rw [List.take_succ_eq_append_getElem h, List.take_succ_eq_append_getElem (show k < l.length by omega)]
  exact groups_snoc ks _ _ _
/-- the copies that are let by, from the position k on -/
def insC (p : Cpy → Int → Bool) : Int → List Cpy → List Cpy
  | _, [] => []
  | k, y :: l => if p y k then y :: insC p (k + 1) l else insC p (k + 1) l
theorem insC_map (ks : List (Nat × Bool)) (f : Frame) (n : Int) (x : R3) (i : Int) : ∀ (l : List Cpy) (k : Int), (insC (fun y k => withinF ks f n x y.1 i k) k l).map (·.1) = insideF ks f n x i k l
  | [], k => rfl
  | y :: l, k => by
    simp only [insC, insideF]
    split
    · rw [List.map_cons, insC_map ks f n x i l (k + 1)]
    · exact insC_map ks f n x i l (k + 1)
theorem insC_snoc (p : Cpy → Int → Bool) : ∀ (l : List Cpy) (k : Int) (y : Cpy), insC p k (l ++ [y]) = insC p k l ++ (if p y (k + l.length) then [y] else [])
  | [], k, y => by simp [insC]
  | x :: l, k, y => by
    have ih := insC_snoc p l (k + 1) y
    have e : k + 1 + (l.length : Int) = k + ((x :: l).length : Int) := by simp; omega
    rw [e] at ih
    simp only [List.cons_append, insC]
    split <;> simp [ih]
theorem insC_take (p : Cpy → Int → Bool) (l : List Cpy) (k : Nat) (h : k < l.length) : insC p 1 (l.take (k + 1)) = insC p 1 (l.take k) ++ (if p l[k] (k + 1) then [l[k]] else []) := by
  rw [List.take_succ_eq_append_getElem h, insC_snoc]
  have e : (1 : Int) + ((l.take k).length : Int) = k + 1 := by rw [List.length_take]; omega
  rw [e]
theorem sumC_snoc (c : Nat) (l : List R3) (y : R3) : sumC c (l ++ [y]) = sumC c l + colV c y := by simp [sumC]
theorem minC_snoc (c : Nat) : ∀ (l : List R3) (m : Int) (y : R3), minC c m (l ++ [y]) = if colV c y < minC c m l then colV c y else minC c m l
  | [], _, _ => rfl
  | _ :: l, _, y => minC_snoc c l _ y
theorem maxC_snoc (c : Nat) : ∀ (l : List R3) (m : Int) (y : R3), maxC c m (l ++ [y]) = if maxC c m l < colV c y then colV c y else maxC c m l
  | [], _, _ => rfl
  | _ :: l, _, y => maxC_snoc c l _ y
theorem sumC_bd (c : Nat) (l : List R3) (h : ∀ r ∈ l, -1000 ≤ colV c r ∧ colV c r ≤ 1000) : -(1000 * (l.length : Int)) ≤ sumC c l ∧ sumC c l ≤ 1000 * (l.length : Int) := by
  unfold sumC
  induction l with
  | nil => simp
  | cons r l ih =>
    have h1 := h r (List.mem_cons_self ..)
    have h2 := ih (fun x hx => h x (List.mem_cons_of_mem _ hx))
    simp only [List.map_cons, List.sum_cons, List.length_cons]
    omega
end Pv
end Go.Proofs.YtcoofnhdbejnpaaGreatDoor

/- Plain functions: the view, step by step: sizes, bounds, no two alike. -/
namespace Go.Proofs.YtcoofnhdbejnpaaGreatDoor
namespace Pv
open Pq Pr
/-- lists of out rows as they come about: short, bounded, no two alike, as many values as there are FUNCs -/
structure Fit (m : Nat) (d : Nat) (l : List Out) : Prop where
  len : l.length ≤ m
  bd : ∀ x ∈ l, -(m : Int) ≤ x.2.2 ∧ x.2.2 ≤ m
  vals : ∀ x ∈ l, x.2.1.length = d
  one : l.Pairwise (fun x y => ¬ (x.1 = y.1 ∧ x.2.1 = y.2.1))
theorem Fit.nil (d : Nat) : Fit 0 d [] := ⟨Nat.le_refl _, fun _ h => by simp at h, fun _ h => by simp at h, List.Pairwise.nil⟩
theorem Fit.mono {m m' d : Nat} {l : List Out} (h : Fit m d l) (hm : m ≤ m') : Fit m' d l := ⟨Nat.le_trans h.len hm, fun x hx => by have := h.bd x hx; omega, h.vals, h.one⟩
theorem Fit.counted {m d : Nat} {l : List Out} (h : Fit m d l) {o : R3 × List Val} (ho : o.2.length = d) {n : Int} (hn : -1 ≤ n) (hn2 : n ≤ 1) : Fit (m + 1) d (countedF l o n) := by
  unfold countedF
  split
  · rename_i hany
    refine ⟨by simp; have := h.len; omega, fun x hx => ?_, fun x hx => ?_, ?_⟩
    · obtain ⟨y, hy, rfl⟩ := List.mem_map.1 hx
      have := h.bd y hy
      by_cases hc : y.1 = o.1 ∧ y.2.1 = o.2
      · rw [if_pos hc]; simp; omega
      · rw [if_neg hc]; omega
    · obtain ⟨y, hy, rfl⟩ := List.mem_map.1 hx
      have := h.vals y hy
      by_cases hc : y.1 = o.1 ∧ y.2.1 = o.2
      · rw [if_pos hc]; exact this
      · rw [if_neg hc]; exact this
    · rw [List.pairwise_map]
      have f1 : ∀ x : Out, (if x.1 = o.1 ∧ x.2.1 = o.2 then (x.1, x.2.1, x.2.2 + n) else x).1 = x.1 := fun x => by split <;> rfl
      have f2 : ∀ x : Out, (if x.1 = o.1 ∧ x.2.1 = o.2 then (x.1, x.2.1, x.2.2 + n) else x).2.1 = x.2.1 := fun x => by split <;> rfl
      refine h.one.imp (fun {x y} hxy => ?_)
      rw [f1, f1, f2, f2]
      exact hxy
  · rename_i hany
    refine ⟨by simp; have := h.len; omega, fun x hx => ?_, fun x hx => ?_, ?_⟩
    · rcases List.mem_append.1 hx with hx | hx
      · have := h.bd x hx; omega
      · simp at hx; subst hx; simp; omega
    · rcases List.mem_append.1 hx with hx | hx
      · exact h.vals x hx
      · simp at hx; subst hx; exact ho
    · rw [List.pairwise_append]
      refine ⟨h.one, List.pairwise_singleton _ _, fun x hx y hy => ?_⟩
      simp at hy
      subst hy
      intro hc
      apply hany
      rw [List.any_eq_true]
      exact ⟨x, hx, by simp [hc.1, hc.2]⟩
theorem Fit.rowShown {q : Qry} {l : List Cpy} {r : R3} {sign : Int} (hs : -1 ≤ sign) (hs2 : sign ≤ 1) : ∀ (i : Nat) (c : List Cpy) (out : List Out) (m : Nat), Fit m q.fs.length out → Fit (m + c.length) q.fs.length (rowShown q l r sign i c out)
  | _, [], out, m, h => h
  | i, x :: c, out, m, h => by
    simp only [Pv.rowShown]
    have e : m + (x :: c).length = m + 1 + c.length := by simp; omega
    split
    · rw [e]
      exact Fit.rowShown hs hs2 (i + 1) c _ (m + 1) (h.counted (by simp) hs hs2)
    · rw [e]
      exact (Fit.rowShown hs hs2 (i + 1) c _ m h).mono (by omega)
theorem valsLow_irr : ∀ (a : List Val), valsLow a a = false
  | [] => rfl
  | none :: a => by simp only [valsLow]; exact valsLow_irr a
  | some x :: a => by simp only [valsLow]; exact valsLow_irr a
theorem valsLow_tr : ∀ {a b c : List Val}, valsLow a b = true → valsLow b c = true → valsLow a c = true
  | [], _, _, h, _ => by simp [valsLow] at h
  | _ :: _, [], _, _, h => by simp [valsLow] at h
  | x :: _, y :: _, [], _, h => by cases y <;> simp [valsLow] at h
  | none :: a, none :: b, none :: c, h, h2 => by simp only [valsLow] at h h2 ⊢; exact valsLow_tr h h2
  | none :: a, none :: b, some z :: c, _, _ => by simp [valsLow]
  | none :: a, some y :: b, none :: c, _, h2 => by simp [valsLow] at h2
  | none :: a, some y :: b, some z :: c, _, _ => by simp [valsLow]
  | some x :: a, none :: b, _ :: c, h, _ => by simp [valsLow] at h
  | some x :: a, some y :: b, none :: c, _, h2 => by simp [valsLow] at h2
  | some x :: a, some y :: b, some z :: c, h, h2 => by
    simp only [valsLow] at h h2 ⊢
    by_cases e1 : x = y
    · subst e1
      rw [if_pos rfl] at h
      by_cases e2 : x = z
      · subst e2
        rw [if_pos rfl] at h2 ⊢
        exact valsLow_tr h h2
      · rw [if_neg e2] at h2 ⊢; exact h2
    · rw [if_neg e1] at h
      have h' : x < y := by simpa using h
      by_cases e2 : y = z
      · subst e2; rw [if_neg e1]; exact h
      · rw [if_neg e2] at h2
        have h2' : y < z := by simpa using h2
        rw [if_neg (by omega)]
        simp; omega
theorem valsLow_tot : ∀ {a b : List Val}, a.length = b.length → a ≠ b → valsLow a b = true ∨ valsLow b a = true
  | [], [], _, h => absurd rfl h
  | [], _ :: _, h, _ => by simp at h
  | _ :: _, [], h, _ => by simp at h
  | none :: a, none :: b, h, h2 => by simp only [valsLow]; exact valsLow_tot (by simpa using h) (fun e => h2 (by rw [e]))
  | none :: a, some y :: b, _, _ => by simp [valsLow]
  | some x :: a, none :: b, _, _ => by simp [valsLow]
  | some x :: a, some y :: b, h, h2 => by
    simp only [valsLow]
    by_cases e : x = y
    · subst e
      rw [if_pos rfl, if_pos rfl]
      exact valsLow_tot (by simpa using h) (fun e => h2 (by rw [e]))
    · rw [if_neg e, if_neg (fun q => e q.symm)]
      simp; omega
theorem lowO_iff (a b : Out) : lowO a b = true ↔ lower a.1 b.1 = true ∨ (a.1 = b.1 ∧ valsLow a.2.1 b.2.1 = true) := by
  unfold lowO
  by_cases e : a.1 = b.1
  · rw [e, lower_irr]; simp
  · cases h1 : lower a.1 b.1
    · have h2 : lower b.1 a.1 = true := by
        rcases lower_tot e with h | h
        · rw [h] at h1; cases h1
        · exact h
      simp [h2, e]
    · simp
theorem Fit.order {m d : Nat} {l : List Out} (h : Fit m d l) : Order lowO l := by
  refine ⟨fun x _ => ?_, fun x hx y hy z hz h1 h2 => ?_, fun x hx y hy hne => ?_⟩
  · cases hq : lowO x x
    · rfl
    · rw [lowO_iff, lower_irr, valsLow_irr] at hq; simp at hq
  · rw [lowO_iff] at h1 h2 ⊢
    rcases h1 with h1 | ⟨e1, h1⟩
    · rcases h2 with h2 | ⟨e2, h2⟩
      · exact .inl (lower_tr h1 h2)
      · exact .inl (by rw [← e2]; exact h1)
    · rcases h2 with h2 | ⟨e2, h2⟩
      · exact .inl (by rw [e1]; exact h2)
      · exact .inr ⟨e1.trans e2, valsLow_tr h1 h2⟩
  · rw [lowO_iff, lowO_iff]
    by_cases e : x.1 = y.1
    · have hv : x.2.1 ≠ y.2.1 := by
        intro e2
        have := List.pairwise_iff_getElem.1 h.one
        obtain ⟨i, hi, rfl⟩ := List.mem_iff_getElem.1 hx
        obtain ⟨j, hj, rfl⟩ := List.mem_iff_getElem.1 hy
        rcases Nat.lt_trichotomy i j with hij | hij | hij
        · exact this i j hi hj hij ⟨e, e2⟩
        · subst hij; exact hne rfl
        · exact this j i hj hi hij ⟨e.symm, e2.symm⟩
      rcases valsLow_tot (by rw [h.vals x hx, h.vals y hy]) hv with h1 | h1
      · exact .inl (.inr ⟨e, h1⟩)
      · exact .inr (.inr ⟨e.symm, h1⟩)
    · rcases lower_tot e with h1 | h1
      · exact .inl (.inl h1)
      · exact .inr (.inl h1)
end Pv
end Go.Proofs.YtcoofnhdbejnpaaGreatDoor

/- Plain functions: the table, row by row. -/
namespace Go.Proofs.YtcoofnhdbejnpaaGreatDoor
namespace Pv
theorem sumOf_bd {l : List Chg} {b : Int} (hb : ∀ c ∈ l, -b ≤ c.2 ∧ c.2 ≤ b) (h0 : 0 ≤ b) (r : R3) : -(b * l.length) ≤ sumOf l r ∧ sumOf l r ≤ b * l.length := by
  induction l with
  | nil => simp [sumOf]
  | cons c l ih =>
    have ih := ih (fun d hd => hb d (by simp [hd]))
    have hc := hb c (by simp)
    rw [sumOf, List.length_cons]
    have e : b * ((l.length + 1 : Nat) : Int) = b * (l.length : Int) + b := by
      rw [show ((l.length + 1 : Nat) : Int) = (l.length : Int) + 1 from rfl, Int.mul_add, Int.mul_one]
    rw [e]
    split <;> omega
end Pv
end Go.Proofs.YtcoofnhdbejnpaaGreatDoor

/- Plain functions: the scan of a batch, place by place. -/
namespace Go.Proofs.YtcoofnhdbejnpaaGreatDoor
namespace Pv
theorem scan_none : ∀ (l : List Chg) (i : Nat), scanF i l = none → ∀ c ∈ l, rowOk c.1 = true ∧ cntOk c.2 = true
  | [], _, _, c, hc => by cases hc
  | d :: l, i, h, c, hc => by
    rw [scanF] at h
    cases h1 : rowOk d.1
    · rw [h1] at h; cases h
    · cases h2 : cntOk d.2
      · rw [h1, h2] at h; cases h
      · rw [h1, h2] at h
        rcases List.mem_cons.1 hc with rfl | hc
        · exact ⟨h1, h2⟩
        · exact scan_none l (i + 1) h c hc
theorem scan_drop (l : List Chg) (k : Nat) (h : k < l.length) : scanF k (l.drop k) = if rowOk l[k].1 = false then some (7, k) else if cntOk l[k].2 = false then some (8, k) else scanF (k + 1) (l.drop (k + 1)) := by
  rw [List.drop_eq_getElem_cons h, scanF]
theorem less_drop (t l : List Chg) (k : Nat) (h : k < l.length) : lessF t k (l.drop k) = if t.any (fun d => decide (d.1 = l[k].1) && decide (d.2 < 0)) = true then some k else lessF t (k + 1) (l.drop (k + 1)) := by
  rw [List.drop_eq_getElem_cons h, lessF]
theorem cnt_bd {n : Int} (h : cntOk n = true) : -40 ≤ n ∧ n ≤ 40 := by
  simp only [cntOk, Bool.and_eq_true, decide_eq_true_eq] at h
  exact h.2
theorem cnt_iff (n : Int) : cntOk n = true ↔ n ≠ 0 ∧ -40 ≤ n ∧ n ≤ 40 := by simp [cntOk]
theorem total_take (t : List Chg) (j : Nat) (h : j < t.length) : totalF (t.take (j + 1)) = totalF (t.take j) + t[j].2 := by
  unfold totalF; rw [List.take_succ_eq_append_getElem h, List.map_append, List.sum_append]; simp
theorem total_bd {t : List Chg} {b : Int} (hb : ∀ c ∈ t, -b ≤ c.2 ∧ c.2 ≤ b) : -(b * t.length) ≤ totalF t ∧ totalF t ≤ b * t.length := by
  induction t with
  | nil => simp [totalF]
  | cons c t ih =>
    have ih := ih (fun d hd => hb d (by simp [hd]))
    have hc := hb c (by simp)
    have e : b * (((c :: t).length : Nat) : Int) = b * (t.length : Int) + b := by
      rw [List.length_cons, show ((t.length + 1 : Nat) : Int) = (t.length : Int) + 1 from rfl, Int.mul_add, Int.mul_one]
    have e2 : totalF (c :: t) = c.2 + totalF t := by simp [totalF]
    rw [e, e2]; omega
theorem refused_long {t b : List Chg} (h : 50 < b.length) : refusedF t b = (1, 0) := by simp [refusedF, h]
theorem refused_scan {t b : List Chg} (h : ¬ 50 < b.length) {x : Int × Nat} (hs : scanF 0 b = some x) : refusedF t b = x := by simp [refusedF, h, hs]
theorem refused_less {t b : List Chg} (h : ¬ 50 < b.length) (hs : scanF 0 b = none) {i : Nat} (hl : lessF (tableF t b) 0 b = some i) : refusedF t b = (9, i) := by simp [refusedF, h, hs, hl]
theorem refused_end {t b : List Chg} (h : ¬ 50 < b.length) (hs : scanF 0 b = none) (hl : lessF (tableF t b) 0 b = none) : refusedF t b = if 40 < totalF (tableF t b) then (10, 0) else (0, 0) := by simp [refusedF, h, hs, hl]
end Pv
end Go.Proofs.YtcoofnhdbejnpaaGreatDoor

/- Plain functions: a table as it comes about. -/
namespace Go.Proofs.YtcoofnhdbejnpaaGreatDoor
namespace Pv
/-- a view's table: sorted, each row with copies, at most forty in all -/
structure TInv (t : List Chg) : Prop where
  tab : IsTable t
  pos : ∀ c ∈ t, 1 ≤ c.2
  tot : totalF t ≤ 40
  row : ∀ c ∈ t, rowOk c.1 = true
theorem TInv.nil : TInv [] := ⟨⟨List.Pairwise.nil, fun _ h => by simp at h⟩, fun _ h => by simp at h, by decide, fun _ h => by simp at h⟩
theorem total_cons (c : Chg) (t : List Chg) : totalF (c :: t) = c.2 + totalF t := by simp [totalF]
theorem total_ge {t : List Chg} (h : ∀ c ∈ t, 1 ≤ c.2) : (t.length : Int) ≤ totalF t ∧ ∀ c ∈ t, c.2 ≤ totalF t := by
  induction t with
  | nil => exact ⟨by simp [totalF], fun _ h => by simp at h⟩
  | cons c t ih =>
    obtain ⟨i1, i2⟩ := ih (fun d hd => h d (List.mem_cons_of_mem _ hd))
    have hc := h c (List.mem_cons_self ..)
    rw [total_cons]
    refine ⟨by simp; omega, fun d hd => ?_⟩
    rcases List.mem_cons.1 hd with rfl | hd
    · omega
    · have := i2 d hd; omega
theorem TInv.len {t : List Chg} (h : TInv t) : t.length ≤ 40 := by
  have := (total_ge h.pos).1; have := h.tot; omega
theorem TInv.bd {t : List Chg} (h : TInv t) : ∀ c ∈ t, 1 ≤ c.2 ∧ c.2 ≤ 40 := fun c hc => by
  have := (total_ge h.pos).2 c hc; have := h.tot; have := h.pos c hc; omega
theorem colV_bd {r : R3} (h : rowOk r = true) (k : Nat) : -1000 ≤ colV k r ∧ colV k r ≤ 1000 := by
  simp only [rowOk, between, Bool.and_eq_true, decide_eq_true_eq] at h
  unfold colV
  split
  · omega
  · split <;> omega
theorem less_no : ∀ (l t : List Chg) (i : Nat), lessF t i l = none → ∀ c ∈ l, t.any (fun d => decide (d.1 = c.1) && decide (d.2 < 0)) = false
  | [], _, _, _, c, hc => by cases hc
  | d :: l, t, i, h, c, hc => by
    rw [lessF] at h
    cases h1 : t.any (fun e => decide (e.1 = d.1) && decide (e.2 < 0))
    · rw [h1] at h
      rcases List.mem_cons.1 hc with rfl | hc
      · exact h1
      · exact less_no l t (i + 1) (by simpa using h) c hc
    · rw [h1] at h; simp at h
theorem sumOf_nn {t : List Chg} (h : ∀ c ∈ t, 1 ≤ c.2) (r : R3) : 0 ≤ sumOf t r := by
  induction t with
  | nil => simp [sumOf]
  | cons c t ih =>
    have i := ih (fun d hd => h d (List.mem_cons_of_mem _ hd))
    have hc := h c (List.mem_cons_self ..)
    have e := sumOf_app [c] t r
    have e2 : sumOf [c] r = if c.1 = r then c.2 else 0 := by simp [sumOf]
    rw [List.singleton_append] at e
    rw [e, e2]
    split <;> omega
theorem refused_ok {t b : List Chg} (h : (refusedF t b).1 = 0) : b.length ≤ 50 ∧ scanF 0 b = none ∧ lessF (tableF t b) 0 b = none ∧ totalF (tableF t b) ≤ 40 := by
  by_cases h1 : 50 < b.length
  · rw [refused_long h1] at h; cases h
  · cases h2 : scanF 0 b with
    | some x =>
      rw [refused_scan h1 h2] at h
      exfalso
      have key : ∀ (l : List Chg) (i : Nat) (x : Int × Nat), scanF i l = some x → x.1 ≠ 0 := by
        intro l
        induction l with
        | nil => intro i x hx; simp [scanF] at hx
        | cons c l ih =>
          intro i x hx
          rw [scanF] at hx
          split at hx
          · cases hx; simp
          · split at hx
            · cases hx; simp
            · exact ih _ _ hx
      exact key b 0 x h2 h
    | none =>
      cases h3 : lessF (tableF t b) 0 b with
      | some i => rw [refused_less h1 h2 h3] at h; cases h
      | none =>
        rw [refused_end h1 h2 h3] at h
        refine ⟨by omega, rfl, rfl, ?_⟩
        split at h
        · cases h
        · omega
theorem TInv.next {t b : List Chg} (h : TInv t) (h0 : (refusedF t b).1 = 0) : TInv (tableF t b) ∧ b.length ≤ 50 ∧ ∀ c ∈ b, rowOk c.1 = true ∧ cntOk c.2 = true := by
  obtain ⟨h1, h2, h3, h4⟩ := refused_ok h0
  have hs := scan_none b 0 h2
  have hin : ∀ c ∈ tableF t b, (∃ d ∈ t, d.1 = c.1) ∨ ∃ d ∈ b, d.1 = c.1 := fun c hc => by
    obtain ⟨e1, e2⟩ := (tableF_mem t b c).1 hc
    by_cases ht : ∃ d ∈ t, d.1 = c.1
    · exact .inl ht
    · by_cases hb : ∃ d ∈ b, d.1 = c.1
      · exact .inr hb
      · exfalso
        rw [sumOf_none (fun d hd e => ht ⟨d, hd, e⟩), sumOf_none (fun d hd e => hb ⟨d, hd, e⟩)] at e1
        omega
  refine ⟨⟨tableF_is t b, fun c hc => ?_, h4, fun c hc => ?_⟩, h1, hs⟩
  · obtain ⟨e1, e2⟩ := (tableF_mem t b c).1 hc
    rcases Int.lt_or_le c.2 0 with hn | hn
    · exfalso
      by_cases hb : ∃ d ∈ b, d.1 = c.1
      · obtain ⟨d, hd, e⟩ := hb
        have := less_no b (tableF t b) 0 h3 d hd
        rw [List.any_eq_false] at this
        exact this c hc (by simp [e, hn])
      · rw [sumOf_none (l := b) (fun d hd e => hb ⟨d, hd, e⟩)] at e1
        have := sumOf_nn h.pos c.1
        omega
    · omega
  · rcases hin c hc with ⟨d, hd, e⟩ | ⟨d, hd, e⟩
    · rw [← e]; exact h.row d hd
    · rw [← e]; exact (hs d hd).1
end Pv
end Go.Proofs.YtcoofnhdbejnpaaGreatDoor

/- Plain functions: a line as package lines keeps it: rows in their order, each copy laid at its place. -/
namespace Go.Proofs.YtcoofnhdbejnpaaGreatDoor
namespace Pv
open Pq Pr
/-- does a stand ahead of b in a line: by the KEYs, then by the rows -/
def aheadP : List (Nat × Bool) → R3 → R3 → Bool
  | [], a, b => lower a b
  | (c, d) :: ks, a, b => if colV c a = colV c b then aheadP ks a b else (decide (colV c a < colV c b) != d)
theorem aheadP_iff : ∀ (ks : List (Nat × Bool)) (a b : R3), aheadP ks a b = true ↔ beforeK ks a b = true ∨ (eqK ks a b ∧ lower a b = true)
  | [], a, b => by simp [aheadP, beforeK, eqK]
  | (c, d) :: ks, a, b => by
    have ih := aheadP_iff ks a b
    rw [aheadP, beforeK]
    by_cases h : colV c a = colV c b
    · rw [if_pos h, if_pos h, ih]
      have : eqK ((c, d) :: ks) a b ↔ eqK ks a b := by simp [eqK, h]
      rw [this]
    · rw [if_neg h, if_neg h]
      have : ¬ eqK ((c, d) :: ks) a b := fun q => h (q (c, d) (by simp))
      cases d <;> simp [this] <;> omega
theorem aheadP_copy (ks : List (Nat × Bool)) (a b : Cpy) : aheadF ks a b = true → aheadP ks b.1 a.1 = false := by
  intro h
  rw [Bool.eq_false_iff]
  intro h2
  rw [ahead_iff] at h
  rw [aheadP_iff] at h2
  rcases h with h | ⟨e, h⟩
  · rcases h2 with h2 | ⟨e2, _⟩
    · rw [bK_asym h] at h2; cases h2
    · rw [bK_eq e2.symm] at h; cases h
  · rcases h2 with h2 | ⟨_, h2⟩
    · rw [bK_eq e.symm] at h2; cases h2
    · rcases h with h | ⟨h, _⟩
      · rw [lower_asym h] at h2; cases h2
      · rw [h, lower_irr] at h2; cases h2
theorem aheadP_anti {ks : List (Nat × Bool)} {a b : R3} (h : aheadP ks a b = false) (h2 : aheadP ks b a = false) : a = b := by
  refine Classical.byContradiction fun hne => ?_
  have n1 : ¬ aheadP ks a b = true := by rw [h]; exact Bool.noConfusion
  have n2 : ¬ aheadP ks b a = true := by rw [h2]; exact Bool.noConfusion
  rw [aheadP_iff] at n1 n2
  have b1 : beforeK ks a b = false := by rw [Bool.eq_false_iff]; exact fun q => n1 (.inl q)
  have b2 : beforeK ks b a = false := by rw [Bool.eq_false_iff]; exact fun q => n2 (.inl q)
  have he := bK_tot b1 b2
  rcases lower_tot hne with q | q
  · exact n1 (.inr ⟨he, q⟩)
  · exact n2 (.inr ⟨he.symm, q⟩)
theorem aheadP_tr {ks : List (Nat × Bool)} {a b c : R3} (h : aheadP ks a b = true) (h2 : aheadP ks b c = true) : aheadP ks a c = true := by
  rw [aheadP_iff] at h h2 ⊢
  rcases h with h | ⟨e, h⟩
  · rcases h2 with h2 | ⟨e2, h2⟩
    · exact .inl (bK_tr h h2)
    · exact .inl (by rw [← bK_right e2]; exact h)
  · rcases h2 with h2 | ⟨e2, h2⟩
    · exact .inl (by rw [bK_left e]; exact h2)
    · exact .inr ⟨e.trans e2, lower_tr h h2⟩
theorem aheadP_irr (ks : List (Nat × Bool)) (a : R3) : aheadP ks a a = false := by
  rw [Bool.eq_false_iff]
  intro h
  rw [aheadP_iff, lower_irr, bK_eq (fun _ _ => rfl)] at h
  simp at h
theorem aheadP_asym {ks : List (Nat × Bool)} {a b : R3} (h : aheadP ks a b = true) : aheadP ks b a = false := by
  rw [Bool.eq_false_iff]
  intro h2
  have := aheadP_tr h h2
  rw [aheadP_irr] at this; cases this
/-- not behind, in a row -/
theorem leP_tr {ks : List (Nat × Bool)} {a b c : R3} (h : aheadP ks b a = false) (h2 : aheadP ks c b = false) : aheadP ks c a = false := by
  by_cases e : b = a
  · rw [← e]; exact h2
  · by_cases e2 : c = b
    · rw [e2]; exact h
    · rw [Bool.eq_false_iff]
      intro h3
      have h4 : aheadP ks a b = true := by
        cases h5 : aheadP ks a b with
        | true => rfl
        | false => exact absurd (aheadP_anti h5 h).symm e
      have := aheadP_tr h3 h4
      rw [h2] at this; cases this
/-- a line: rows in their order -/
def SrtL (ks : List (Nat × Bool)) (l : List R3) : Prop := l.Pairwise (fun x y => aheadP ks y x = false)
/-- how many of the front stand ahead of r -/
def plP (ks : List (Nat × Bool)) (r : R3) : List R3 → Nat
  | [] => 0
  | x :: l => if aheadP ks x r = true then plP ks r l + 1 else 0
def insP (ks : List (Nat × Bool)) (r : R3) (l : List R3) : List R3 := l.take (plP ks r l) ++ r :: l.drop (plP ks r l)
theorem plP_le (ks : List (Nat × Bool)) (r : R3) : ∀ l : List R3, plP ks r l ≤ l.length
  | [] => Nat.le_refl _
  | x :: l => by
    have := plP_le ks r l
    rw [plP]; split
    · simp; omega
    · omega
theorem plP_front (ks : List (Nat × Bool)) (r : R3) : ∀ (l : List R3) (j : Nat) (hj : j < l.length), j < plP ks r l → aheadP ks l[j] r = true
  | [], j, hj, _ => by simp at hj
  | c :: l, j, hj, h => by
    rw [plP] at h
    split at h
    · rename_i hc
      match j with
      | 0 => exact hc
      | j + 1 => exact plP_front ks r l j (by simpa using hj) (by omega)
    · omega
theorem plP_stop (ks : List (Nat × Bool)) (r : R3) : ∀ (l : List R3) (h : plP ks r l < l.length), aheadP ks l[plP ks r l] r = false
  | [], h => by simp at h
  | c :: l, h => by
    cases hc : aheadP ks c r with
    | true =>
      have e : plP ks r (c :: l) = plP ks r l + 1 := by rw [plP, if_pos hc]
      have h2 : plP ks r l < l.length := by rw [e] at h; simpa using h
      have := plP_stop ks r l h2
      have e2 : (c :: l)[plP ks r (c :: l)] = l[plP ks r l] := by simp [e]
      rw [e2]; exact this
    | false =>
      have e : plP ks r (c :: l) = 0 := by rw [plP, if_neg (by simp [hc])]
      have e2 : (c :: l)[plP ks r (c :: l)] = c := by simp [e]
      rw [e2]; exact hc
theorem plP_is (ks : List (Nat × Bool)) (r : R3) (l : List R3) (k : Nat) (hk : k ≤ l.length) (h1 : ∀ j (hj : j < l.length), j < k → aheadP ks l[j] r = true) (h2 : ∀ h : k < l.length, aheadP ks l[k] r = false) : plP ks r l = k := by
  rcases Nat.lt_trichotomy (plP ks r l) k with h | h | h
  · have hs := plP_stop ks r l (by omega)
    rw [h1 _ (by omega) h] at hs; cases hs
  · exact h
  · have hf := plP_front ks r l k (by have := plP_le ks r l; omega) h
    rw [h2 (by have := plP_le ks r l; omega)] at hf; cases hf
theorem insP_perm (ks : List (Nat × Bool)) (r : R3) (l : List R3) : (insP ks r l).Perm (r :: l) := by
  unfold insP
  refine List.perm_middle.trans ?_
  rw [List.take_append_drop]
theorem insP_len (ks : List (Nat × Bool)) (r : R3) (l : List R3) : (insP ks r l).length = l.length + 1 := (insP_perm ks r l).length_eq
theorem insP_srt {ks : List (Nat × Bool)} {r : R3} {l : List R3} (h : SrtL ks l) : SrtL ks (insP ks r l) := by
  have hst : ∀ j (hj : j < l.length), plP ks r l ≤ j → aheadP ks l[j] r = false := fun j hj hle => by
    have h0 := plP_stop ks r l (by omega)
    rcases Nat.lt_or_eq_of_le hle with h1 | h1
    · exact leP_tr h0 ((List.pairwise_iff_getElem.1 h) _ _ (by omega) hj h1)
    · subst h1; exact h0
  unfold SrtL insP
  rw [List.pairwise_append, List.pairwise_cons]
  have h1 : (l.take (plP ks r l) ++ l.drop (plP ks r l)).Pairwise (fun x y => aheadP ks y x = false) := by rw [List.take_append_drop]; exact h
  rw [List.pairwise_append] at h1
  have hin : ∀ x ∈ l.take (plP ks r l), aheadP ks r x = false := fun x hx => by
    obtain ⟨j, hj, rfl⟩ := List.getElem_of_mem hx
    rw [List.length_take] at hj
    rw [List.getElem_take]
    exact aheadP_asym (plP_front ks r l j (by omega) (by omega))
  refine ⟨h1.1, ⟨fun x hx => ?_, h1.2.1⟩, fun x hx y hy => ?_⟩
  · obtain ⟨j, hj, rfl⟩ := List.getElem_of_mem hx
    rw [List.length_drop] at hj
    rw [List.getElem_drop]
    exact hst _ (by omega) (by omega)
  · rcases List.mem_cons.1 hy with rfl | hy
    · exact hin x hx
    · exact h1.2.2 x hx y hy
/-- a line by what it holds -/
theorem srtL_eq {ks : List (Nat × Bool)} {a b : List R3} (ha : SrtL ks a) (hb : SrtL ks b) (h : ∀ x, a.count x = b.count x) : a = b :=
  List.Perm.eq_of_pairwise (fun _ _ _ _ h1 h2 => aheadP_anti h2 h1) ha hb (List.perm_iff_count.2 h)
/-- so many copies of a row -/
def insN (ks : List (Nat × Bool)) (r : R3) : Nat → List R3 → List R3
  | 0, l => l
  | n + 1, l => insP ks r (insN ks r n l)
theorem insN_perm (ks : List (Nat × Bool)) (r : R3) : ∀ (n : Nat) (l : List R3), (insN ks r n l).Perm (List.replicate n r ++ l)
  | 0, l => by simp [insN]
  | n + 1, l => by
    rw [insN, List.replicate_succ, List.cons_append]
    exact (insP_perm ks r _).trans ((insN_perm ks r n l).cons r)
theorem insN_srt {ks : List (Nat × Bool)} {r : R3} {l : List R3} (h : SrtL ks l) : ∀ n, SrtL ks (insN ks r n l)
  | 0 => h
  | n + 1 => insP_srt (insN_srt h n)
theorem insN_len (ks : List (Nat × Bool)) (r : R3) (n : Nat) (l : List R3) : (insN ks r n l).length = n + l.length := by
  have := (insN_perm ks r n l).length_eq
  simpa using this
/-- the rows of the document's line -/
def lineR (ks : List (Nat × Bool)) (cs : List Nat) (t : List Chg) (r : R3) : List R3 := (lineF ks cs t r).map (·.1)
theorem lineR_srt (ks : List (Nat × Bool)) {cs : List Nat} {t : List Chg} (ht : IsTable t) (r : R3) : SrtL ks (lineR ks cs t r) := by
  unfold SrtL lineR
  rw [List.pairwise_map, List.pairwise_iff_getElem]
  intro i j hi hj hij
  exact aheadP_copy ks _ _ ((line_spec ks ht r).2.2 i j _ _ (List.getElem?_eq_getElem hi) (List.getElem?_eq_getElem hj) hij)
theorem nodup_perm {α : Type} [DecidableEq α] {a b : List α} (ha : a.Nodup) (hb : b.Nodup) (h : ∀ x, x ∈ a ↔ x ∈ b) : a.Perm b := by
  rw [List.perm_iff_count]
  intro x
  rw [ha.count, hb.count]
  by_cases hx : x ∈ a
  · rw [if_pos hx, if_pos ((h x).1 hx)]
  · rw [if_neg hx, if_neg (fun q => hx ((h x).2 q))]
theorem line_perm (ks : List (Nat × Bool)) {cs : List Nat} {t : List Chg} (ht : IsTable t) (r : R3) : (lineF ks cs t r).Perm (copiesF cs t r) := by
  refine nodup_perm ?_ (copies_nodup ht r) (line_spec ks ht r).2.1
  rw [List.nodup_iff_pairwise_ne, List.pairwise_iff_getElem]
  intro i j hi hj hij e
  have := (line_spec ks ht r).2.2 i j _ _ (List.getElem?_eq_getElem hi) (List.getElem?_eq_getElem hj) hij
  rw [e, ahead_irr] at this; cases this
theorem copies_rows (cs : List Nat) (t : List Chg) (r : R3) : (copiesF cs t r).map (·.1) = t.flatMap (fun c => if matesC cs c.1 r then List.replicate c.2.toNat c.1 else []) := by
  unfold copiesF
  rw [List.map_flatMap]
  congr 1
  funext c
  split
  · rw [List.map_map]
    have : ((fun x : Cpy => x.1) ∘ fun k => (c.1, k)) = fun _ : Nat => c.1 := rfl
    rw [this, List.map_const']
    simp
  · rfl
theorem matesC_iff (cs : List Nat) (a b : R3) : matesC cs a b = true ↔ ∀ c ∈ cs, colV c a = colV c b := by simp [matesC]
theorem mates_symm {cs : List Nat} {a b : R3} (h : matesC cs a b = true) : matesC cs b a = true := by
  rw [matesC_iff] at h ⊢; exact fun c hc => (h c hc).symm
theorem mates_trans {cs : List Nat} {a b c : R3} (h : matesC cs a b = true) (h2 : matesC cs b c = true) : matesC cs a c = true := by
  rw [matesC_iff] at h h2 ⊢; exact fun q hq => (h q hq).trans (h2 q hq)
theorem mates_refl (cs : List Nat) (a : R3) : matesC cs a a = true := by rw [matesC_iff]; exact fun _ _ => rfl
theorem copies_count {cs : List Nat} {t : List Chg} (hp : ∀ c ∈ t, 0 ≤ c.2) (r x : R3) : ((copiesF cs t r).map (·.1)).count x = if matesC cs x r then (sumOf t x).toNat else 0 := by
  rw [copies_rows]
  have hnn : ∀ (t : List Chg), (∀ c ∈ t, 0 ≤ c.2) → 0 ≤ sumOf t x := by
    intro t
    induction t with
    | nil => intro _; simp [sumOf]
    | cons c t ih =>
      intro h
      have i := ih (fun d hd => h d (List.mem_cons_of_mem _ hd))
      have hc := h c (List.mem_cons_self ..)
      rw [sumOf]
      split <;> omega
  induction t with
  | nil => simp [sumOf]
  | cons c t ih =>
    have i := ih (fun d hd => hp d (List.mem_cons_of_mem _ hd))
    have hc := hp c (List.mem_cons_self ..)
    have hn := hnn t (fun d hd => hp d (List.mem_cons_of_mem _ hd))
    rw [List.flatMap_cons, List.count_append, i, sumOf]
    by_cases e : c.1 = x
    · rw [if_pos e, e]
      split
      · rw [List.count_replicate]; simp; omega
      · simp
    · rw [if_neg e]
      have : List.count x (if matesC cs c.1 r = true then List.replicate c.2.toNat c.1 else []) = 0 := by
        rw [List.count_eq_zero]
        intro h
        split at h
        · exact e (List.eq_of_mem_replicate h).symm
        · simp at h
      rw [this]; simp
theorem lineR_count (ks : List (Nat × Bool)) {cs : List Nat} {t : List Chg} (ht : IsTable t) (hp : ∀ c ∈ t, 0 ≤ c.2) (r x : R3) : (lineR ks cs t r).count x = if matesC cs x r then (sumOf t x).toNat else 0 := by
  rw [← copies_count hp r x]
  exact ((line_perm ks ht r).map _).count_eq x
end Pv
end Go.Proofs.YtcoofnhdbejnpaaGreatDoor

