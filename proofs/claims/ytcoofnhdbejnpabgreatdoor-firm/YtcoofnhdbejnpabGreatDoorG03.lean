/- Plain functions: the copies of a part stand in a line. -/
import Derived.Test.YtcoofnhdbejnpabGreatDoorG02
import Derived.Test.YtcoofnhdbejnpabGreatDoorG00
namespace Go.Proofs.YtcoofnhdbejnpabGreatDoor
namespace Pv
open Pq Pr
def eqK (ks : List (Nat × Bool)) (a b : R3) : Prop := ∀ k ∈ ks, colV k.1 a = colV k.1 b
theorem eqK.symm {ks : List (Nat × Bool)} {a b : R3} (h : eqK ks a b) : eqK ks b a := fun k hk => (h k hk).symm
theorem eqK.trans {ks : List (Nat × Bool)} {a b c : R3} (h : eqK ks a b) (h2 : eqK ks b c) : eqK ks a c := fun k hk => (h k hk).trans (h2 k hk)
theorem bK_eq {ks : List (Nat × Bool)} {a b : R3} (h : eqK ks a b) : beforeK ks a b = false := by
  induction ks with
  | nil => rfl
  | cons k ks ih =>
    obtain ⟨c, d⟩ := k
    rw [beforeK, if_pos (h (c, d) (by simp))]
    exact ih (fun k hk => h k (by simp [hk]))
theorem bK_left {ks : List (Nat × Bool)} {a b c : R3} (h : eqK ks a b) : beforeK ks a c = beforeK ks b c := by
  induction ks with
  | nil => rfl
  | cons k ks ih =>
    obtain ⟨q, d⟩ := k
    have e : colV q a = colV q b := h (q, d) (by simp)
    rw [beforeK, beforeK, e, ih (fun k hk => h k (by simp [hk]))]
theorem bK_right {ks : List (Nat × Bool)} {a b c : R3} (h : eqK ks a b) : beforeK ks c a = beforeK ks c b := by
  induction ks with
  | nil => rfl
  | cons k ks ih =>
    obtain ⟨q, d⟩ := k
    have e : colV q a = colV q b := h (q, d) (by simp)
    rw [beforeK, beforeK, e, ih (fun k hk => h k (by simp [hk]))]
theorem bK_cons (c : Nat) (d : Bool) (ks : List (Nat × Bool)) (a b : R3) : beforeK ((c, d) :: ks) a b = true ↔ (colV c a = colV c b ∧ beforeK ks a b = true) ∨ (d = true ∧ colV c b < colV c a) ∨ (d = false ∧ colV c a < colV c b) := by
  rw [beforeK]
  by_cases h : colV c a = colV c b
  · rw [if_pos h, h]
    constructor
    · intro q; exact .inl ⟨rfl, q⟩
    · rintro (⟨_, q⟩ | ⟨_, q⟩ | ⟨_, q⟩)
      · exact q
      · omega
      · omega
  · rw [if_neg h]
    cases d
    · simp [h]
    · simp [h]
theorem bK_asym {ks : List (Nat × Bool)} {a b : R3} (h : beforeK ks a b = true) : beforeK ks b a = false := by
  induction ks with
  | nil => cases h
  | cons k ks ih =>
    obtain ⟨c, d⟩ := k
    rw [Bool.eq_false_iff]
    intro h2
    rw [bK_cons] at h h2
    rcases h with ⟨e, h⟩ | ⟨e, h⟩ | ⟨e, h⟩
    · rcases h2 with ⟨_, h2⟩ | ⟨_, h2⟩ | ⟨_, h2⟩
      · rw [ih h] at h2; cases h2
      · omega
      · omega
    · rcases h2 with ⟨_, h2⟩ | ⟨_, h2⟩ | ⟨e2, h2⟩
      · omega
      · omega
      · rw [e] at e2; cases e2
    · rcases h2 with ⟨_, h2⟩ | ⟨e2, h2⟩ | ⟨_, h2⟩
      · omega
      · rw [e] at e2; cases e2
      · omega
theorem bK_tr {ks : List (Nat × Bool)} {a b c : R3} (h : beforeK ks a b = true) (h2 : beforeK ks b c = true) : beforeK ks a c = true := by
  induction ks with
  | nil => cases h
  | cons k ks ih =>
    obtain ⟨q, d⟩ := k
    rw [bK_cons] at h h2 ⊢
    cases d
    · rcases h with ⟨e, h⟩ | ⟨e, h⟩ | ⟨_, h⟩
      · rcases h2 with ⟨e2, h2⟩ | ⟨e2, h2⟩ | ⟨_, h2⟩
        · exact .inl ⟨e.trans e2, ih h h2⟩
        · cases e2
        · exact .inr (.inr ⟨rfl, by omega⟩)
      · cases e
      · rcases h2 with ⟨e2, h2⟩ | ⟨e2, h2⟩ | ⟨_, h2⟩
        · exact .inr (.inr ⟨rfl, by omega⟩)
        · cases e2
        · exact .inr (.inr ⟨rfl, by omega⟩)
    · rcases h with ⟨e, h⟩ | ⟨_, h⟩ | ⟨e, h⟩
      · rcases h2 with ⟨e2, h2⟩ | ⟨_, h2⟩ | ⟨e2, h2⟩
        · exact .inl ⟨e.trans e2, ih h h2⟩
        · exact .inr (.inl ⟨rfl, by omega⟩)
        · cases e2
      · rcases h2 with ⟨e2, h2⟩ | ⟨_, h2⟩ | ⟨e2, h2⟩
        · exact .inr (.inl ⟨rfl, by omega⟩)
        · exact .inr (.inl ⟨rfl, by omega⟩)
        · cases e2
      · cases e
theorem bK_tot {ks : List (Nat × Bool)} {a b : R3} (h : beforeK ks a b = false) (h2 : beforeK ks b a = false) : eqK ks a b := by
  induction ks with
  | nil => intro k hk; cases hk
  | cons k ks ih =>
    obtain ⟨c, d⟩ := k
    have n1 : ¬ beforeK ((c, d) :: ks) a b = true := by rw [h]; exact Bool.noConfusion
    have n2 : ¬ beforeK ((c, d) :: ks) b a = true := by rw [h2]; exact Bool.noConfusion
    rw [bK_cons] at n1 n2
    have e : colV c a = colV c b := by
      refine Classical.byContradiction fun hne => ?_
      cases d
      · rcases Int.lt_or_gt_of_ne hne with q | q
        · exact n1 (.inr (.inr ⟨rfl, q⟩))
        · exact n2 (.inr (.inr ⟨rfl, q⟩))
      · rcases Int.lt_or_gt_of_ne hne with q | q
        · exact n2 (.inr (.inl ⟨rfl, q⟩))
        · exact n1 (.inr (.inl ⟨rfl, q⟩))
    have m1 : beforeK ks a b = false := by
      rw [Bool.eq_false_iff]; exact fun q => n1 (.inl ⟨e, q⟩)
    have m2 : beforeK ks b a = false := by
      rw [Bool.eq_false_iff]; exact fun q => n2 (.inl ⟨e.symm, q⟩)
    intro k hk
    rcases List.mem_cons.1 hk with rfl | hk
    · exact e
    · exact ih m1 m2 k hk
theorem ahead_iff (ks : List (Nat × Bool)) (a b : Cpy) : aheadF ks a b = true ↔ beforeK ks a.1 b.1 = true ∨ (eqK ks a.1 b.1 ∧ (lower a.1 b.1 = true ∨ (a.1 = b.1 ∧ a.2 < b.2))) := by
  unfold aheadF
  cases h1 : beforeK ks a.1 b.1
  · cases h2 : beforeK ks b.1 a.1
    · have he := bK_tot h1 h2
      simp only [Bool.or_false, Bool.false_eq_true, if_false, false_or, he, true_and]
      cases h3 : lower a.1 b.1
      · cases h4 : lower b.1 a.1
        · have e : a.1 = b.1 := Classical.byContradiction fun hne => by
            rcases lower_tot hne with q | q
            · rw [h3] at q; cases q
            · rw [h4] at q; cases q
          simp [e]
        · have hne : a.1 ≠ b.1 := fun e => by rw [e, lower_irr] at h4; cases h4
          simp [hne]
      · simp
    · have hne : ¬ eqK ks a.1 b.1 := fun e => by rw [bK_eq e.symm] at h2; cases h2
      simp [hne]
  · simp
theorem ahead_irr (ks : List (Nat × Bool)) (a : Cpy) : aheadF ks a a = false := by
  rw [Bool.eq_false_iff]; intro h
  rw [ahead_iff] at h
  rcases h with h | ⟨_, h | ⟨_, h⟩⟩
  · have := bK_asym h; rw [h] at this; cases this
  · rw [lower_irr] at h; cases h
  · omega
theorem ahead_tr {ks : List (Nat × Bool)} {a b c : Cpy} (h : aheadF ks a b = true) (h2 : aheadF ks b c = true) : aheadF ks a c = true := by
  rw [ahead_iff] at h h2 ⊢
  rcases h with h | ⟨e, h⟩
  · rcases h2 with h2 | ⟨e2, h2⟩
    · exact .inl (bK_tr h h2)
    · exact .inl (by rw [← bK_right e2]; exact h)
  · rcases h2 with h2 | ⟨e2, h2⟩
    · exact .inl (by rw [bK_left e]; exact h2)
    · refine .inr ⟨e.trans e2, ?_⟩
      rcases h with h | ⟨q, h⟩
      · rcases h2 with h2 | ⟨q2, h2⟩
        · exact .inl (lower_tr h h2)
        · exact .inl (q2 ▸ h)
      · rcases h2 with h2 | ⟨q2, h2⟩
        · exact .inl (q ▸ h2)
        · exact .inr ⟨q.trans q2, by omega⟩
theorem ahead_tot {ks : List (Nat × Bool)} {a b : Cpy} (h : a ≠ b) : aheadF ks a b = true ∨ aheadF ks b a = true := by
  rw [ahead_iff, ahead_iff]
  cases h1 : beforeK ks a.1 b.1
  · cases h2 : beforeK ks b.1 a.1
    · have he := bK_tot h1 h2
      by_cases hr : a.1 = b.1
      · have hn : a.2 ≠ b.2 := fun e => h (Prod.ext hr e)
        rcases Nat.lt_or_gt_of_ne hn with q | q
        · exact .inl (.inr ⟨he, .inr ⟨hr, q⟩⟩)
        · exact .inr (.inr ⟨he.symm, .inr ⟨hr.symm, q⟩⟩)
      · rcases lower_tot hr with q | q
        · exact .inl (.inr ⟨he, .inl q⟩)
        · exact .inr (.inr ⟨he.symm, .inl q⟩)
    · exact .inr (.inl rfl)
  · exact .inl (.inl rfl)
theorem ahead_order (ks : List (Nat × Bool)) (l : List Cpy) : Order (aheadF ks) l := ⟨fun x _ => ahead_irr ks x, fun _ _ _ _ _ _ => ahead_tr, fun _ _ _ _ => ahead_tot⟩
theorem copies_mem (cs : List Nat) (t : List Chg) (r : R3) (x : Cpy) : x ∈ copiesF cs t r ↔ ∃ c ∈ t, matesC cs c.1 r = true ∧ x.1 = c.1 ∧ x.2 < c.2.toNat := by
  unfold copiesF
  rw [List.mem_flatMap]
  constructor
  · rintro ⟨c, hc, hx⟩
    split at hx
    · rename_i hm
      obtain ⟨k, hk, rfl⟩ := List.mem_map.1 hx
      exact ⟨c, hc, hm, rfl, List.mem_range.1 hk⟩
    · cases hx
  · rintro ⟨c, hc, hm, h1, h2⟩
    refine ⟨c, hc, ?_⟩
    rw [if_pos hm]
    exact List.mem_map.2 ⟨x.2, List.mem_range.2 h2, Prod.ext h1.symm rfl⟩
theorem copies_nodup {cs : List Nat} {t : List Chg} (ht : IsTable t) (r : R3) : (copiesF cs t r).Nodup := by
  induction t with
  | nil => simp [copiesF]
  | cons c t ih =>
    have hs := ht.srt
    rw [List.pairwise_cons] at hs
    have ht2 : IsTable t := ⟨hs.2, fun d hd => ht.nz d (by simp [hd])⟩
    have e : copiesF cs (c :: t) r = (if matesC cs c.1 r then (List.range c.2.toNat).map (fun k => (c.1, k)) else []) ++ copiesF cs t r := by simp [copiesF]
    rw [e, List.nodup_append]
    refine ⟨?_, ih ht2, ?_⟩
    · split
      · rw [List.nodup_iff_pairwise_ne, List.pairwise_iff_getElem]
        intro i j hi hj hij e
        have e2 := congrArg Prod.snd e
        simp at e2
        omega
      · simp
    · intro x hx y hy exy
      subst exy
      split at hx
      · obtain ⟨k, _, rfl⟩ := List.mem_map.1 hx
        obtain ⟨d, hd, _, h1, _⟩ := (copies_mem cs t r _).1 hy
        have := hs.1 d hd
        have h1' : c.1 = d.1 := h1
        rw [h1', lower_irr] at this; cases this
      · cases hx
theorem line_spec (ks : List (Nat × Bool)) {cs : List Nat} {t : List Chg} (ht : IsTable t) (r : R3) : (lineF ks cs t r).length = (copiesF cs t r).length ∧ (∀ x, x ∈ lineF ks cs t r ↔ x ∈ copiesF cs t r) ∧ ∀ (i j : Nat) (x y : Cpy), (lineF ks cs t r)[i]? = some x → (lineF ks cs t r)[j]? = some y → i < j → aheadF ks x y = true :=
  place_spec _ (ahead_order ks _) (copies_nodup ht r)
end Pv
end Go.Proofs.YtcoofnhdbejnpabGreatDoor

/- Plain functions: what the FUNCs are worth; out rows; the view. -/
namespace Go.Proofs.YtcoofnhdbejnpabGreatDoor
namespace Pv
open Pq Pr
abbrev Val := Option Int
/-- a position that an EDGE means, in a line of n, for the position i -/
def edgeP (e : Edge) (n i : Int) : Int := if e.kind = 0 then 1 else if e.kind = 1 then n else if e.kind = 2 then i else if e.kind = 3 then i - e.num else i + e.num
def col0 (ks : List (Nat × Bool)) : Nat := match ks with | k :: _ => k.1 | [] => 0
/-- is the copy y at the position k in the frame of x at the position i -/
def withinF (ks : List (Nat × Bool)) (f : Frame) (n : Int) (x y : R3) (i k : Int) : Bool :=
  if f.kind = 0 then true
  else if f.kind = 1 then !(beforeK ks x y)
  else if f.kind = 2 then decide (colV (col0 ks) x - colV (col0 ks) y ≤ f.num) && decide (-(colV (col0 ks) x - colV (col0 ks) y) ≤ f.num)
  else decide (edgeP f.frm n i ≤ k) && decide (k ≤ edgeP f.to n i)
/-- the rows in the frame, from the position k on -/
def insideF (ks : List (Nat × Bool)) (f : Frame) (n : Int) (x : R3) (i : Int) : Int → List Cpy → List R3
  | _, [] => []
  | k, y :: l => if withinF ks f n x y.1 i k then y.1 :: insideF ks f n x i (k + 1) l else insideF ks f n x i (k + 1) l
def sumC (c : Nat) (l : List R3) : Int := (l.map (colV c)).sum
def minC (c : Nat) : Int → List R3 → Int
  | m, [] => m
  | m, r :: l => minC c (if colV c r < m then colV c r else m) l
def maxC (c : Nat) : Int → List R3 → Int
  | m, [] => m
  | m, r :: l => maxC c (if m < colV c r then colV c r else m) l
/-- count, sum, min, max, first, last of these rows -/
def overF (k c : Nat) (l : List R3) : Val :=
  if k = 6 then some l.length
  else match l with
    | [] => none
    | r :: q => if k = 7 then some (sumC c (r :: q)) else if k = 8 then some (minC c (colV c r) (r :: q)) else if k = 9 then some (maxC c (colV c r) (r :: q)) else if k = 10 then some (colV c r) else some (colV c ((r :: q).getLast (by simp)))
/-- how many groups of peers stand in the line up to here -/
def groupsF (ks : List (Nat × Bool)) : List Cpy → Int
  | [] => 1
  | [_] => 1
  | a :: b :: l => groupsF ks (b :: l) + (if beforeK ks a.1 b.1 then 1 else 0)
/-- of the position i of n, in m tiles: from the tile t on, of which so many are left -/
def tileG (i n m : Int) : Nat → Int → Int → Int
  | 0, _, _ => m
  | f + 1, t, e =>
    let e2 := e + n / m + (if t ≤ n % m then 1 else 0)
    if i ≤ e2 then t else tileG i n m f (t + 1) e2
def tileF (i n m : Int) : Int := tileG i n m m.toNat 1 0
/-- what a FUNC is worth for the copy at the position i (from 1 on) of a line -/
def valueF (ks : List (Nat × Bool)) (l : List Cpy) (f : Fn) (i : Nat) : Val :=
  match l[i - 1]? with
  | none => none
  | some x =>
    if f.kind = 0 then some i
    else if f.kind = 1 then some (1 + (l.countP (fun y => beforeK ks y.1 x.1) : Nat))
    else if f.kind = 2 then some (groupsF ks (l.take i))
    else if f.kind = 3 then some (tileF i l.length f.num)
    else if f.kind < 6 then
      (let j : Int := if f.kind = 4 then i - f.num else i + f.num
       if j < 1 ∨ (l.length : Int) < j then none else (l[(j - 1).toNat]?).map (fun y => colV f.col y.1))
    else overF f.kind f.col (insideF ks f.frame l.length x.1 i 1 l)
/-- out rows -/
abbrev Out := R3 × List Val × Int
/-- the order of values: none comes ahead -/
def valsLow : List Val → List Val → Bool
  | [], _ => false
  | _, [] => false
  | none :: a, none :: b => valsLow a b
  | none :: _, some _ :: _ => true
  | some _ :: _, none :: _ => false
  | some x :: a, some y :: b => if x = y then valsLow a b else decide (x < y)
def lowO (a b : Out) : Bool := if lower a.1 b.1 || lower b.1 a.1 then lower a.1 b.1 else valsLow a.2.1 b.2.1
/-- one out row more, n times -/
def countedF (l : List Out) (o : R3 × List Val) (n : Int) : List Out :=
  if l.any (fun x => decide (x.1 = o.1) && decide (x.2.1 = o.2)) then l.map (fun x => if x.1 = o.1 ∧ x.2.1 = o.2 then (x.1, x.2.1, x.2.2 + n) else x) else l ++ [(o.1, o.2, n)]
def zOut : Out := ((0, 0, 0), [], 0)
def listF (l : List Out) : List Out := (place lowO zOut l).filter (fun o => !(o.2.2 == 0))
/-- a query, as a view reads it -/
structure Qry where
  cs : List Nat
  ks : List (Nat × Bool)
  fs : List Fn
  top : Int
  frm : Int
/-- is the position shown -/
def topOk (q : Qry) (i : Int) : Bool := decide (q.top < 0) || (decide (q.frm < i) && decide (i ≤ q.frm + q.top))
/-- the copies of one row, from the position i on, each with that sign -/
def rowShown (q : Qry) (l : List Cpy) (r : R3) (sign : Int) : Nat → List Cpy → List Out → List Out
  | _, [], out => out
  | i, x :: m, out => if decide (x.1 = r) && topOk q i then rowShown q l r sign (i + 1) m (countedF out (x.1, q.fs.map (fun f => valueF q.ks l f i)) sign) else rowShown q l r sign (i + 1) m out
def shownF (q : Qry) (t : List Chg) (sign : Int) (out : List Out) : List Out := t.foldl (fun out c => rowShown q (lineF q.ks q.cs t c.1) c.1 sign 1 (lineF q.ks q.cs t c.1) out) out
def rowsF (q : Qry) (t : List Chg) : List Out := listF (shownF q t 1 [])
def appliedF (q : Qry) (t batch : List Chg) : List Out := if (refusedF t batch).1 = 0 then listF (shownF q t (-1) (shownF q (tableF t batch) 1 [])) else []
end Pv
end Go.Proofs.YtcoofnhdbejnpabGreatDoor

/- Plain functions: FUNCs, step by step. -/
namespace Go.Proofs.YtcoofnhdbejnpabGreatDoor
namespace Pv
open Pq Pr
theorem groups_snoc (ks : List (Nat × Bool)) : ∀ (l : List Cpy) (y x : Cpy), groupsF ks (l ++ [y] ++ [x]) = groupsF ks (l ++ [y]) + (if beforeK ks y.1 x.1 then 1 else 0)
  | [], y, x => by simp [groupsF]
  | [a], y, x => by simp [groupsF]; omega
  | a :: b :: l, y, x => by
    have ih := groups_snoc ks (b :: l) y x
    simp only [List.cons_append, groupsF] at ih ⊢
    omega
theorem groups_take (ks : List (Nat × Bool)) (l : List Cpy) (k : Nat) (h : k + 1 < l.length) : groupsF ks (l.take (k + 1 + 1)) = groupsF ks (l.take (k + 1)) + (if beforeK ks l[k].1 l[k + 1].1 then 1 else 0) := by
  rw [List.take_succ_eq_append_getElem h, List.take_succ_eq_append_getElem (show k < l.length by omega)]
  exact groups_snoc ks _ _ _
theorem sumC_snoc (c : Nat) (l : List R3) (y : R3) : sumC c (l ++ [y]) = sumC c l + colV c y := by simp [sumC]
theorem minC_snoc (c : Nat) : ∀ (l : List R3) (m : Int) (y : R3), minC c m (l ++ [y]) = if colV c y < minC c m l then colV c y else minC c m l
  | [], _, _ => rfl
  | _ :: l, _, y => minC_snoc c l _ y
theorem maxC_snoc (c : Nat) : ∀ (l : List R3) (m : Int) (y : R3), maxC c m (l ++ [y]) = if maxC c m l < colV c y then colV c y else maxC c m l
  | [], _, _ => rfl
  | _ :: l, _, y => maxC_snoc c l _ y
theorem sumC_bd (c : Nat) (l : List R3) (h : ∀ r ∈ l, -1000 ≤ colV c r ∧ colV c r ≤ 1000) : -(1000 * (l.length : Int)) ≤ sumC c l ∧ sumC c l ≤ 1000 * (l.length : Int) := by
  unfold sumC
  induction l with
  | nil => simp
  | cons r l ih =>
    have h1 := h r (List.mem_cons_self ..)
    have h2 := ih (fun x hx => h x (List.mem_cons_of_mem _ hx))
    simp only [List.map_cons, List.sum_cons, List.length_cons]
    omega
end Pv
end Go.Proofs.YtcoofnhdbejnpabGreatDoor

/- Plain functions: the view, step by step: sizes, bounds, no two alike. -/
namespace Go.Proofs.YtcoofnhdbejnpabGreatDoor
namespace Pv
open Pq Pr
/-- lists of out rows as they come about: short, bounded, no two alike, as many values as there are FUNCs -/
structure Fit (m : Nat) (d : Nat) (l : List Out) : Prop where
  len : l.length ≤ m
  bd : ∀ x ∈ l, -(m : Int) ≤ x.2.2 ∧ x.2.2 ≤ m
  vals : ∀ x ∈ l, x.2.1.length = d
  one : l.Pairwise (fun x y => ¬ (x.1 = y.1 ∧ x.2.1 = y.2.1))
theorem Fit.nil (d : Nat) : Fit 0 d [] := ⟨Nat.le_refl _, fun _ h => by simp at h, fun _ h => by simp at h, List.Pairwise.nil⟩
theorem Fit.mono {m m' d : Nat} {l : List Out} (h : Fit m d l) (hm : m ≤ m') : Fit m' d l := ⟨Nat.le_trans h.len hm, fun x hx => by have := h.bd x hx; omega, h.vals, h.one⟩
theorem Fit.counted {m d : Nat} {l : List Out} (h : Fit m d l) {o : R3 × List Val} (ho : o.2.length = d) {n : Int} (hn : -1 ≤ n) (hn2 : n ≤ 1) : Fit (m + 1) d (countedF l o n) := by
  unfold countedF
  split
  · rename_i hany
    refine ⟨by simp; have := h.len; omega, fun x hx => ?_, fun x hx => ?_, ?_⟩
    · obtain ⟨y, hy, rfl⟩ := List.mem_map.1 hx
      have := h.bd y hy
      by_cases hc : y.1 = o.1 ∧ y.2.1 = o.2
      · rw [if_pos hc]; simp; omega
      · rw [if_neg hc]; omega
    · obtain ⟨y, hy, rfl⟩ := List.mem_map.1 hx
      have := h.vals y hy
      by_cases hc : y.1 = o.1 ∧ y.2.1 = o.2
      · rw [if_pos hc]; exact this
      · rw [if_neg hc]; exact this
    · rw [List.pairwise_map]
      have f1 : ∀ x : Out, (if x.1 = o.1 ∧ x.2.1 = o.2 then (x.1, x.2.1, x.2.2 + n) else x).1 = x.1 := fun x => by split <;> rfl
      have f2 : ∀ x : Out, (if x.1 = o.1 ∧ x.2.1 = o.2 then (x.1, x.2.1, x.2.2 + n) else x).2.1 = x.2.1 := fun x => by split <;> rfl
      refine h.one.imp (fun {x y} hxy => ?_)
      rw [f1, f1, f2, f2]
      exact hxy
  · rename_i hany
    refine ⟨by simp; have := h.len; omega, fun x hx => ?_, fun x hx => ?_, ?_⟩
    · rcases List.mem_append.1 hx with hx | hx
      · have := h.bd x hx; omega
      · simp at hx; subst hx; simp; omega
    · rcases List.mem_append.1 hx with hx | hx
      · exact h.vals x hx
      · simp at hx; subst hx; exact ho
    · rw [List.pairwise_append]
      refine ⟨h.one, List.pairwise_singleton _ _, fun x hx y hy => ?_⟩
      simp at hy
      subst hy
      intro hc
      apply hany
      rw [List.any_eq_true]
      exact ⟨x, hx, by simp [hc.1, hc.2]⟩
theorem Fit.rowShown {q : Qry} {l : List Cpy} {r : R3} {sign : Int} (hs : -1 ≤ sign) (hs2 : sign ≤ 1) : ∀ (i : Nat) (c : List Cpy) (out : List Out) (m : Nat), Fit m q.fs.length out → Fit (m + c.length) q.fs.length (rowShown q l r sign i c out)
  | _, [], out, m, h => h
  | i, x :: c, out, m, h => by
    simp only [Pv.rowShown]
    have e : m + (x :: c).length = m + 1 + c.length := by simp; omega
    split
    · rw [e]
      exact Fit.rowShown hs hs2 (i + 1) c _ (m + 1) (h.counted (by simp) hs hs2)
    · rw [e]
      exact (Fit.rowShown hs hs2 (i + 1) c _ m h).mono (by omega)
theorem valsLow_irr : ∀ (a : List Val), valsLow a a = false
  | [] => rfl
  | none :: a => by simp only [valsLow]; exact valsLow_irr a
  | some x :: a => by simp only [valsLow]; exact valsLow_irr a
theorem valsLow_tr : ∀ {a b c : List Val}, valsLow a b = true → valsLow b c = true → valsLow a c = true
  | [], _, _, h, _ => by simp [valsLow] at h
  | _ :: _, [], _, _, h => by simp [valsLow] at h
  | x :: _, y :: _, [], _, h => by cases y <;> simp [valsLow] at h
  | none :: a, none :: b, none :: c, h, h2 => by simp only [valsLow] at h h2 ⊢; exact valsLow_tr h h2
  | none :: a, none :: b, some z :: c, _, _ => by simp [valsLow]
  | none :: a, some y :: b, none :: c, _, h2 => by simp [valsLow] at h2
  | none :: a, some y :: b, some z :: c, _, _ => by simp [valsLow]
  | some x :: a, none :: b, _ :: c, h, _ => by simp [valsLow] at h
  | some x :: a, some y :: b, none :: c, _, h2 => by simp [valsLow] at h2
  | some x :: a, some y :: b, some z :: c, h, h2 => by
    simp only [valsLow] at h h2 ⊢
    by_cases e1 : x = y
    · subst e1
      rw [if_pos rfl] at h
      by_cases e2 : x = z
      · subst e2
        rw [if_pos rfl] at h2 ⊢
        exact valsLow_tr h h2
      · rw [if_neg e2] at h2 ⊢; exact h2
    · rw [if_neg e1] at h
      have h' : x < y := by simpa using h
      by_cases e2 : y = z
      · subst e2; rw [if_neg e1]; exact h
      · rw [if_neg e2] at h2
        have h2' : y < z := by simpa using h2
        rw [if_neg (by omega)]
        simp; omega
theorem valsLow_tot : ∀ {a b : List Val}, a.length = b.length → a ≠ b → valsLow a b = true ∨ valsLow b a = true
  | [], [], _, h => absurd rfl h
  | [], _ :: _, h, _ => by simp at h
  | _ :: _, [], h, _ => by simp at h
  | none :: a, none :: b, h, h2 => by simp only [valsLow]; exact valsLow_tot (by simpa using h) (fun e => h2 (by rw [e]))
  | none :: a, some y :: b, _, _ => by simp [valsLow]
  | some x :: a, none :: b, _, _ => by simp [valsLow]
  | some x :: a, some y :: b, h, h2 => by
    simp only [valsLow]
    by_cases e : x = y
    · subst e
      rw [if_pos rfl, if_pos rfl]
      exact valsLow_tot (by simpa using h) (fun e => h2 (by rw [e]))
    · rw [if_neg e, if_neg (fun q => e q.symm)]
      simp; omega
theorem lowO_iff (a b : Out) : lowO a b = true ↔ lower a.1 b.1 = true ∨ (a.1 = b.1 ∧ valsLow a.2.1 b.2.1 = true) := by
  unfold lowO
  by_cases e : a.1 = b.1
  · rw [e, lower_irr]; simp
  · cases h1 : lower a.1 b.1
    · have h2 : lower b.1 a.1 = true := by
        rcases lower_tot e with h | h
        · rw [h] at h1; cases h1
        · exact h
      simp [h2, e]
    · simp
theorem Fit.order {m d : Nat} {l : List Out} (h : Fit m d l) : Order lowO l := by
  refine ⟨fun x _ => ?_, fun x hx y hy z hz h1 h2 => ?_, fun x hx y hy hne => ?_⟩
  · cases hq : lowO x x
    · rfl
    · rw [lowO_iff, lower_irr, valsLow_irr] at hq; simp at hq
  · rw [lowO_iff] at h1 h2 ⊢
    rcases h1 with h1 | ⟨e1, h1⟩
    · rcases h2 with h2 | ⟨e2, h2⟩
      · exact .inl (lower_tr h1 h2)
      · exact .inl (by rw [← e2]; exact h1)
    · rcases h2 with h2 | ⟨e2, h2⟩
      · exact .inl (by rw [e1]; exact h2)
      · exact .inr ⟨e1.trans e2, valsLow_tr h1 h2⟩
  · rw [lowO_iff, lowO_iff]
    by_cases e : x.1 = y.1
    · have hv : x.2.1 ≠ y.2.1 := by
        intro e2
        have := List.pairwise_iff_getElem.1 h.one
        obtain ⟨i, hi, rfl⟩ := List.mem_iff_getElem.1 hx
        obtain ⟨j, hj, rfl⟩ := List.mem_iff_getElem.1 hy
        rcases Nat.lt_trichotomy i j with hij | hij | hij
        · exact this i j hi hj hij ⟨e, e2⟩
        · subst hij; exact hne rfl
        · exact this j i hj hi hij ⟨e.symm, e2.symm⟩
      rcases valsLow_tot (by rw [h.vals x hx, h.vals y hy]) hv with h1 | h1
      · exact .inl (.inr ⟨e, h1⟩)
      · exact .inr (.inr ⟨e.symm, h1⟩)
    · rcases lower_tot e with h1 | h1
      · exact .inl (.inl h1)
      · exact .inr (.inl h1)
end Pv
end Go.Proofs.YtcoofnhdbejnpabGreatDoor

/- Plain functions: the table, row by row. -/
namespace Go.Proofs.YtcoofnhdbejnpabGreatDoor
namespace Pv
theorem sumOf_bd {l : List Chg} {b : Int} (hb : ∀ c ∈ l, -b ≤ c.2 ∧ c.2 ≤ b) (h0 : 0 ≤ b) (r : R3) : -(b * l.length) ≤ sumOf l r ∧ sumOf l r ≤ b * l.length := by
  induction l with
  | nil => simp [sumOf]
  | cons c l ih =>
    have ih := ih (fun d hd => hb d (by simp [hd]))
    have hc := hb c (by simp)
    rw [sumOf, List.length_cons]
    have e : b * ((l.length + 1 : Nat) : Int) = b * (l.length : Int) + b := by
      rw [show ((l.length + 1 : Nat) : Int) = (l.length : Int) + 1 from rfl, Int.mul_add, Int.mul_one]
    rw [e]
    split <;> omega
end Pv
end Go.Proofs.YtcoofnhdbejnpabGreatDoor

/- Plain functions: the scan of a batch, place by place. -/
namespace Go.Proofs.YtcoofnhdbejnpabGreatDoor
namespace Pv
theorem scan_none : ∀ (l : List Chg) (i : Nat), scanF i l = none → ∀ c ∈ l, rowOk c.1 = true ∧ cntOk c.2 = true
  | [], _, _, c, hc => by cases hc
  | d :: l, i, h, c, hc => by
    rw [scanF] at h
    cases h1 : rowOk d.1
    · rw [h1] at h; cases h
    · cases h2 : cntOk d.2
      · rw [h1, h2] at h; cases h
      · rw [h1, h2] at h
        rcases List.mem_cons.1 hc with rfl | hc
        · exact ⟨h1, h2⟩
        · exact scan_none l (i + 1) h c hc
theorem scan_drop (l : List Chg) (k : Nat) (h : k < l.length) : scanF k (l.drop k) = if rowOk l[k].1 = false then some (7, k) else if cntOk l[k].2 = false then some (8, k) else scanF (k + 1) (l.drop (k + 1)) := by
  rw [List.drop_eq_getElem_cons h, scanF]
theorem less_drop (t l : List Chg) (k : Nat) (h : k < l.length) : lessF t k (l.drop k) = if t.any (fun d => decide (d.1 = l[k].1) && decide (d.2 < 0)) = true then some k else lessF t (k + 1) (l.drop (k + 1)) := by
  rw [List.drop_eq_getElem_cons h, lessF]
theorem cnt_bd {n : Int} (h : cntOk n = true) : -40 ≤ n ∧ n ≤ 40 := by
  simp only [cntOk, Bool.and_eq_true, decide_eq_true_eq] at h
  exact h.2
theorem cnt_iff (n : Int) : cntOk n = true ↔ n ≠ 0 ∧ -40 ≤ n ∧ n ≤ 40 := by simp [cntOk]
theorem total_take (t : List Chg) (j : Nat) (h : j < t.length) : totalF (t.take (j + 1)) = totalF (t.take j) + t[j].2 := by
  unfold totalF; rw [List.take_succ_eq_append_getElem h, List.map_append, List.sum_append]; simp
theorem total_bd {t : List Chg} {b : Int} (hb : ∀ c ∈ t, -b ≤ c.2 ∧ c.2 ≤ b) : -(b * t.length) ≤ totalF t ∧ totalF t ≤ b * t.length := by
  induction t with
  | nil => simp [totalF]
  | cons c t ih =>
    have ih := ih (fun d hd => hb d (by simp [hd]))
    have hc := hb c (by simp)
    have e : b * (((c :: t).length : Nat) : Int) = b * (t.length : Int) + b := by
      rw [List.length_cons, show ((t.length + 1 : Nat) : Int) = (t.length : Int) + 1 from rfl, Int.mul_add, Int.mul_one]
    have e2 : totalF (c :: t) = c.2 + totalF t := by simp [totalF]
    rw [e, e2]; omega
theorem refused_long {t b : List Chg} (h : 50 < b.length) : refusedF t b = (1, 0) := by simp [refusedF, h]
theorem refused_scan {t b : List Chg} (h : ¬ 50 < b.length) {x : Int × Nat} (hs : scanF 0 b = some x) : refusedF t b = x := by simp [refusedF, h, hs]
theorem refused_less {t b : List Chg} (h : ¬ 50 < b.length) (hs : scanF 0 b = none) {i : Nat} (hl : lessF (tableF t b) 0 b = some i) : refusedF t b = (9, i) := by simp [refusedF, h, hs, hl]
theorem refused_end {t b : List Chg} (h : ¬ 50 < b.length) (hs : scanF 0 b = none) (hl : lessF (tableF t b) 0 b = none) : refusedF t b = if 40 < totalF (tableF t b) then (10, 0) else (0, 0) := by simp [refusedF, h, hs, hl]
end Pv
end Go.Proofs.YtcoofnhdbejnpabGreatDoor

/- Plain functions: a table as it comes about. -/
namespace Go.Proofs.YtcoofnhdbejnpabGreatDoor
namespace Pv
/-- a view's table: sorted, each row with copies, at most forty in all -/
structure TInv (t : List Chg) : Prop where
  tab : IsTable t
  pos : ∀ c ∈ t, 1 ≤ c.2
  tot : totalF t ≤ 40
  row : ∀ c ∈ t, rowOk c.1 = true
theorem TInv.nil : TInv [] := ⟨⟨List.Pairwise.nil, fun _ h => by simp at h⟩, fun _ h => by simp at h, by decide, fun _ h => by simp at h⟩
theorem total_cons (c : Chg) (t : List Chg) : totalF (c :: t) = c.2 + totalF t := by simp [totalF]
theorem total_ge {t : List Chg} (h : ∀ c ∈ t, 1 ≤ c.2) : (t.length : Int) ≤ totalF t ∧ ∀ c ∈ t, c.2 ≤ totalF t := by
  induction t with
  | nil => exact ⟨by simp [totalF], fun _ h => by simp at h⟩
  | cons c t ih =>
    obtain ⟨i1, i2⟩ := ih (fun d hd => h d (List.mem_cons_of_mem _ hd))
    have hc := h c (List.mem_cons_self ..)
    rw [total_cons]
    refine ⟨by simp; omega, fun d hd => ?_⟩
    rcases List.mem_cons.1 hd with rfl | hd
    · omega
    · have := i2 d hd; omega
theorem TInv.len {t : List Chg} (h : TInv t) : t.length ≤ 40 := by
  have := (total_ge h.pos).1; have := h.tot; omega
theorem TInv.bd {t : List Chg} (h : TInv t) : ∀ c ∈ t, 1 ≤ c.2 ∧ c.2 ≤ 40 := fun c hc => by
  have := (total_ge h.pos).2 c hc; have := h.tot; have := h.pos c hc; omega
theorem colV_bd {r : R3} (h : rowOk r = true) (k : Nat) : -1000 ≤ colV k r ∧ colV k r ≤ 1000 := by
  simp only [rowOk, between, Bool.and_eq_true, decide_eq_true_eq] at h
  unfold colV
  split
  · omega
  · split <;> omega
theorem less_no : ∀ (l t : List Chg) (i : Nat), lessF t i l = none → ∀ c ∈ l, t.any (fun d => decide (d.1 = c.1) && decide (d.2 < 0)) = false
  | [], _, _, _, c, hc => by cases hc
  | d :: l, t, i, h, c, hc => by
    rw [lessF] at h
    cases h1 : t.any (fun e => decide (e.1 = d.1) && decide (e.2 < 0))
    · rw [h1] at h
      rcases List.mem_cons.1 hc with rfl | hc
      · exact h1
      · exact less_no l t (i + 1) (by simpa using h) c hc
    · rw [h1] at h; simp at h
theorem sumOf_nn {t : List Chg} (h : ∀ c ∈ t, 1 ≤ c.2) (r : R3) : 0 ≤ sumOf t r := by
  induction t with
  | nil => simp [sumOf]
  | cons c t ih =>
    have i := ih (fun d hd => h d (List.mem_cons_of_mem _ hd))
    have hc := h c (List.mem_cons_self ..)
    have e := sumOf_app [c] t r
    have e2 : sumOf [c] r = if c.1 = r then c.2 else 0 := by simp [sumOf]
    rw [List.singleton_append] at e
    rw [e, e2]
    split <;> omega
theorem refused_ok {t b : List Chg} (h : (refusedF t b).1 = 0) : b.length ≤ 50 ∧ scanF 0 b = none ∧ lessF (tableF t b) 0 b = none ∧ totalF (tableF t b) ≤ 40 := by
  by_cases h1 : 50 < b.length
  · rw [refused_long h1] at h; cases h
  · cases h2 : scanF 0 b with
    | some x =>
      rw [refused_scan h1 h2] at h
      exfalso
      have key : ∀ (l : List Chg) (i : Nat) (x : Int × Nat), scanF i l = some x → x.1 ≠ 0 := by
        intro l
        induction l with
        | nil => intro i x hx; simp [scanF] at hx
        | cons c l ih =>
          intro i x hx
          rw [scanF] at hx
          split at hx
          · cases hx; simp
          · split at hx
            · cases hx; simp
            · exact ih _ _ hx
      exact key b 0 x h2 h
    | none =>
      cases h3 : lessF (tableF t b) 0 b with
      | some i => rw [refused_less h1 h2 h3] at h; cases h
      | none =>
        rw [refused_end h1 h2 h3] at h
        refine ⟨by omega, rfl, rfl, ?_⟩
        split at h
        · cases h
        · omega
theorem TInv.next {t b : List Chg} (h : TInv t) (h0 : (refusedF t b).1 = 0) : TInv (tableF t b) ∧ b.length ≤ 50 ∧ ∀ c ∈ b, rowOk c.1 = true ∧ cntOk c.2 = true := by
  obtain ⟨h1, h2, h3, h4⟩ := refused_ok h0
  have hs := scan_none b 0 h2
  have hin : ∀ c ∈ tableF t b, (∃ d ∈ t, d.1 = c.1) ∨ ∃ d ∈ b, d.1 = c.1 := fun c hc => by
    obtain ⟨e1, e2⟩ := (tableF_mem t b c).1 hc
    by_cases ht : ∃ d ∈ t, d.1 = c.1
    · exact .inl ht
    · by_cases hb : ∃ d ∈ b, d.1 = c.1
      · exact .inr hb
      · exfalso
        rw [sumOf_none (fun d hd e => ht ⟨d, hd, e⟩), sumOf_none (fun d hd e => hb ⟨d, hd, e⟩)] at e1
        omega
  refine ⟨⟨tableF_is t b, fun c hc => ?_, h4, fun c hc => ?_⟩, h1, hs⟩
  · obtain ⟨e1, e2⟩ := (tableF_mem t b c).1 hc
    rcases Int.lt_or_le c.2 0 with hn | hn
    · exfalso
      by_cases hb : ∃ d ∈ b, d.1 = c.1
      · obtain ⟨d, hd, e⟩ := hb
        have := less_no b (tableF t b) 0 h3 d hd
        rw [List.any_eq_false] at this
        exact this c hc (by simp [e, hn])
      · rw [sumOf_none (l := b) (fun d hd e => hb ⟨d, hd, e⟩)] at e1
        have := sumOf_nn h.pos c.1
        omega
    · omega
  · rcases hin c hc with ⟨d, hd, e⟩ | ⟨d, hd, e⟩
    · rw [← e]; exact h.row d hd
    · rw [← e]; exact (hs d hd).1
end Pv
end Go.Proofs.YtcoofnhdbejnpabGreatDoor

