/- Plain functions: the value of a FUNC at a position, as package lines tells it; the positions that are shown. -/
import Derived.Test.YtcoofnhdbejnpaaGreatDoorG07
import Derived.Test.YtcoofnhdbejnpaaGreatDoorG03
import Derived.Test.YtcoofnhdbejnpaaGreatDoorG01
namespace Go.Proofs.YtcoofnhdbejnpaaGreatDoor
namespace Pv
open Pq Pr
/-- the column of the copy at a position, if there is one -/
def columnP (l : List R3) (c : Nat) (i : Int) : Val := if i < 1 ∨ (l.length : Int) < i then none else (l[(i - 1).toNat]?).map (colV c)
theorem columnP_in (l : List R3) (c : Nat) (j : Nat) (h : j < l.length) : columnP l c (j + 1 : Nat) = some (colV c l[j]) := by
  unfold columnP
  rw [if_neg (by omega), show ((((j + 1 : Nat) : Int) - 1).toNat) = j by omega, List.getElem?_eq_getElem h]; rfl
theorem cp_get (l : List R3) (i : Nat) (h : i < l.length) : (cp l)[i]? = some (l[i], 0) := by
  unfold cp; rw [List.getElem?_map, List.getElem?_eq_getElem h]; rfl
theorem cp_len (l : List R3) : (cp l).length = l.length := by simp [cp]
theorem valR_number {ks : List (Nat × Bool)} {l : List R3} {f : Fn} {i : Nat} (hi : i < l.length) (hf : f.kind = 0) : valR ks l f (i + 1) = some ((i : Int) + 1) := by
  unfold valR valueF
  rw [Nat.add_sub_cancel, cp_get l i hi]
  simp [hf]
theorem valR_rank {ks : List (Nat × Bool)} {l : List R3} {f : Fn} {i a : Nat} (h : SrtL ks l) (hi : i < l.length) (hf : f.kind = 1) (hai : a ≤ i) (he : endsP ks l (a : Nat) = true) (hm : ∀ j : Nat, a < j → j ≤ i → endsP ks l (j : Nat) = false) : valR ks l f (i + 1) = some ((a : Int) + 1) := by
  unfold valR valueF
  rw [Nat.add_sub_cancel, cp_get l i hi]
  have := first_peer h hi hai he hm
  simp [hf, this]; omega
theorem valR_dense {ks : List (Nat × Bool)} {l : List R3} {f : Fn} {i : Nat} (h : SrtL ks l) (hi : i < l.length) (hf : f.kind = 2) : valR ks l f (i + 1) = some (groupsN ks l i) := by
  unfold valR valueF
  rw [Nat.add_sub_cancel, cp_get l i hi]
  simp [hf, groupsN_eq h i hi]
theorem valR_tile {ks : List (Nat × Bool)} {l : List R3} {f : Fn} {i : Nat} (hi : i < l.length) (hf : f.kind = 3) (hm : 1 ≤ f.num) : valR ks l f (i + 1) = some (tileP ((i : Int) + 1) l.length f.num) := by
  unfold valR valueF
  rw [Nat.add_sub_cancel, cp_get l i hi]
  rw [tileP_eq (by omega) (by omega) hm]
  simp [hf, cp_len]
theorem valR_lag {ks : List (Nat × Bool)} {l : List R3} {f : Fn} {i : Nat} (hi : i < l.length) (hf : f.kind = 4) : valR ks l f (i + 1) = columnP l f.col ((i : Int) + 1 - f.num) := by
  unfold valR valueF columnP
  rw [Nat.add_sub_cancel, cp_get l i hi]
  simp only [hf, cp_len]
  simp [cp]
  rfl
theorem valR_lead {ks : List (Nat × Bool)} {l : List R3} {f : Fn} {i : Nat} (hi : i < l.length) (hf : f.kind = 5) : valR ks l f (i + 1) = columnP l f.col ((i : Int) + 1 + f.num) := by
  unfold valR valueF columnP
  rw [Nat.add_sub_cancel, cp_get l i hi]
  simp only [hf, cp_len]
  simp [cp]
  rfl
theorem valR_over {ks : List (Nat × Bool)} {l : List R3} {f : Fn} {i : Nat} (hi : i < l.length) (hf : 6 ≤ f.kind) : valR ks l f (i + 1) = overF f.kind f.col (insideF ks f.frame l.length l[i] ((i : Int) + 1) 1 (cp l)) := by
  unfold valR valueF
  rw [Nat.add_sub_cancel, cp_get l i hi]
  simp only [cp_len]
  rw [if_neg (by omega), if_neg (by omega), if_neg (by omega), if_neg (by omega), if_neg (by omega)]
  rfl
/-- the stretch between two positions -/
def segI (l : List R3) (a b : Int) : List R3 := segR l a.toNat b.toNat
theorem segI_none (l : List R3) (a b : Int) (h : b < a) : segI l a b = [] := by
  unfold segI
  by_cases ha : 1 ≤ a
  · exact seg_none l _ _ (by omega)
  · unfold segR
    rw [show b.toNat = 0 by omega]; simp
theorem over_none {k c : Nat} : overF k c [] = if k = 6 then some 0 else none := by
  unfold overF
  split <;> rfl
theorem over_some {k c : Nat} {l : List R3} {a b : Nat} (ha : a < b) (hb : b ≤ l.length) : overF k c (segR l (a + 1) b) = if k = 6 then some ((b : Int) - a) else if k = 7 then some (sumC c (segR l (a + 1) b)) else if k = 8 then some (minC c (colV c l[a]) (segR l (a + 1) b)) else if k = 9 then some (maxC c (colV c l[a]) (segR l (a + 1) b)) else if k = 10 then some (colV c l[a]) else some (colV c (l[b - 1]'(by omega))) := by
  obtain ⟨q, hq⟩ := seg_head l (a + 1) b (by omega) (by omega) hb
  have hl := seg_len l (a + 1) b (by omega) (by omega) hb
  have hs : segR l (a + 1) b = segR l (a + 1) (b - 1) ++ [l[b - 1]'(by omega)] := by
    have := seg_succ l (a + 1) (b - 1) (by omega) (by omega)
    rw [show b - 1 + 1 = b by omega] at this
    exact this
  have hlast : ∀ (m : List R3) (h : m ≠ []), m = segR l (a + 1) b → m.getLast h = l[b - 1]'(by omega) := fun m h e => by
    subst e
    simp only [hs]
    simp
  unfold overF
  rw [hl]
  by_cases h6 : k = 6
  · rw [if_pos h6, if_pos h6]; congr 1; omega
  · rw [if_neg h6, if_neg h6, hq]
    simp only [Nat.add_sub_cancel]
    have hq2 : l[a] :: q = segR l (a + 1) b := hq.symm
    rw [hlast (l[a] :: q) (by simp) hq2]
/-- the out row of a position -/
def outAt (q : Qry) (l : List R3) (i : Nat) : Out := ((l[i - 1]?).getD (0, 0, 0), q.fs.map (fun f => valR q.ks l f i), 1)
def segO (q : Qry) (l : List R3) (a b : Nat) : List Out := (List.range (b + 1 - a)).map (fun j => outAt q l (a + j))
theorem segO_succ (q : Qry) (l : List R3) (a b : Nat) (h : a ≤ b + 1) : segO q l a (b + 1) = segO q l a b ++ [outAt q l (b + 1)] := by
  unfold segO
  rw [show b + 1 + 1 - a = b + 1 - a + 1 by omega, List.range_succ, List.map_append]
  simp [show a + (b + 1 - a) = b + 1 by omega]
theorem segO_none (q : Qry) (l : List R3) (a b : Nat) (h : b < a) : segO q l a b = [] := by
  unfold segO; rw [show b + 1 - a = 0 by omega]; rfl
theorem segO_cons (q : Qry) (l : List R3) (a b : Nat) (h : a ≤ b) : segO q l a b = outAt q l a :: segO q l (a + 1) b := by
  unfold segO
  rw [show b + 1 - a = b + 1 - (a + 1) + 1 by omega, List.range_succ_eq_map, List.map_cons, List.map_map]
  congr 1
  refine List.map_congr_left (fun j _ => ?_)
  show outAt q l (a + (j + 1)) = outAt q l (a + 1 + j)
  congr 1; omega
theorem shownG_seg {q : Qry} {l : List R3} {a b : Nat} (hb : b ≤ l.length) (h : ∀ i : Nat, 1 ≤ i → i ≤ l.length → topOk q i = decide (a ≤ i ∧ i ≤ b)) : ∀ (m : List R3) (k : Nat), m = l.drop k → shownG q l (k + 1) m = segO q l (max a (k + 1)) b
  | [], k, e => by
    have : l.length ≤ k := by
      have := congrArg List.length e
      simp at this; omega
    rw [segO_none q l _ _ (by omega)]; rfl
  | x :: m, k, e => by
    have hk : k < l.length := by
      have := congrArg List.length e
      simp at this; omega
    rw [List.drop_eq_getElem_cons hk] at e
    obtain ⟨rfl, rfl⟩ := List.cons.inj e
    have ih := shownG_seg hb h (l.drop (k + 1)) (k + 1) rfl
    rw [shownG, ih, h (k + 1) (by omega) (by omega)]
    by_cases hin : a ≤ k + 1 ∧ k + 1 ≤ b
    · rw [if_pos (by simpa using hin), show max a (k + 1) = k + 1 by omega, show max a (k + 1 + 1) = k + 1 + 1 by omega, segO_cons q l (k + 1) b hin.2]
      congr 1
      unfold outAt
      rw [Nat.add_sub_cancel, List.getElem?_eq_getElem hk]
      rfl
    · rw [if_neg (by simpa using hin)]
      by_cases hkb : b < k + 1
      · rw [segO_none q l _ _ (by omega), segO_none q l _ _ (by omega)]
      · rw [show max a (k + 1) = max a (k + 1 + 1) by omega]
def showA (q : Qry) : Int := if q.top < 0 then 1 else cutA (q.frm + 1)
def showB (q : Qry) (n : Int) : Int := if q.top < 0 then n else cutB (q.frm + q.top) n
theorem shownP_seg {q : Qry} (hf : 0 ≤ q.frm) (l : List R3) : shownP q l = segO q l (showA q).toNat (showB q l.length).toNat ∧ 1 ≤ showA q ∧ showB q l.length ≤ l.length ∧ 0 ≤ showB q l.length := by
  have h1 : 1 ≤ showA q := by unfold showA cutA; split <;> (try split) <;> omega
  have h2 : showB q l.length ≤ l.length := by unfold showB cutB; split <;> (try split) <;> omega
  have h3 : 0 ≤ showB q l.length := by unfold showB cutB; split <;> (try split) <;> omega
  refine ⟨?_, h1, h2, h3⟩
  unfold shownP
  have := shownG_seg (q := q) (l := l) (a := (showA q).toNat) (b := (showB q l.length).toNat) (by omega) (fun i hi hil => ?_) l 0 (by simp)
  · rw [show max (showA q).toNat (0 + 1) = (showA q).toNat by omega] at this
    exact this
  · unfold topOk showA showB cutA cutB
    rw [Bool.eq_iff_iff]
    simp only [Bool.or_eq_true, Bool.and_eq_true, decide_eq_true_eq]
    by_cases ht : q.top < 0
    · rw [if_pos ht, if_pos ht]; omega
    · rw [if_neg ht, if_neg ht]
      split <;> split <;> omega
theorem segO_len (q : Qry) (l : List R3) (a b : Nat) : (segO q l a b).length = b + 1 - a := by simp [segO]
end Pv
end Go.Proofs.YtcoofnhdbejnpaaGreatDoor

/- Plain functions: what package tables computes: rows kept in their order, with the sums of their changes. -/
namespace Go.Proofs.YtcoofnhdbejnpaaGreatDoor
namespace Pv
/-- how many rows of the front stand ahead of r -/
def placeF (r : R3) : List Chg → Nat
  | [] => 0
  | c :: l => if lower c.1 r = true then placeF r l + 1 else 0
/-- a change joins the sums -/
def addF (c : Chg) : List Chg → List Chg
  | [] => [c]
  | d :: l => if lower d.1 c.1 = true then d :: addF c l else if d.1 = c.1 then (d.1, d.2 + c.2) :: l else c :: d :: l
def Srt (l : List Chg) : Prop := l.Pairwise (fun x y => lower x.1 y.1 = true)
theorem placeF_le (r : R3) : ∀ l : List Chg, placeF r l ≤ l.length
  | [] => Nat.le_refl _
  | c :: l => by
    have := placeF_le r l
    rw [placeF]; split
    · simp; omega
    · omega
theorem placeF_front (r : R3) : ∀ (l : List Chg) (j : Nat) (hj : j < l.length), j < placeF r l → lower l[j].1 r = true
  | [], j, hj, _ => by simp at hj
  | c :: l, j, hj, h => by
    rw [placeF] at h
    split at h
    · rename_i hc
      match j with
      | 0 => exact hc
      | j + 1 => exact placeF_front r l j (by simpa using hj) (by omega)
    · omega
theorem placeF_stop (r : R3) : ∀ (l : List Chg) (h : placeF r l < l.length), lower l[placeF r l].1 r = false
  | [], h => by simp at h
  | c :: l, h => by
    cases hc : lower c.1 r with
    | true =>
      have e : placeF r (c :: l) = placeF r l + 1 := by rw [placeF, if_pos hc]
      have h2 : placeF r l < l.length := by rw [e] at h; simpa using h
      have := placeF_stop r l h2
      have e2 : (c :: l)[placeF r (c :: l)] = l[placeF r l] := by simp [e]
      rw [e2]; exact this
    | false =>
      have e : placeF r (c :: l) = 0 := by rw [placeF, if_neg (by simp [hc])]
      have e2 : (c :: l)[placeF r (c :: l)] = c := by simp [e]
      rw [e2]; exact hc
/-- the place, by what stands there -/
theorem placeF_is (r : R3) (l : List Chg) (k : Nat) (hk : k ≤ l.length) (h1 : ∀ j (hj : j < l.length), j < k → lower l[j].1 r = true) (h2 : ∀ h : k < l.length, lower l[k].1 r = false) : placeF r l = k := by
  rcases Nat.lt_trichotomy (placeF r l) k with h | h | h
  · have hs := placeF_stop r l (by omega)
    rw [h1 _ (by omega) h] at hs; cases hs
  · exact h
  · have hf := placeF_front r l k (by have := placeF_le r l; omega) h
    rw [h2 (by have := placeF_le r l; omega)] at hf; cases hf
theorem addF_at (c : Chg) : ∀ l : List Chg, addF c l = if h : placeF c.1 l < l.length ∧ (l[placeF c.1 l]?.map (·.1)) = some c.1 then l.set (placeF c.1 l) (c.1, (l[placeF c.1 l]'h.1).2 + c.2) else l.take (placeF c.1 l) ++ c :: l.drop (placeF c.1 l)
  | [] => by simp [addF, placeF]
  | d :: l => by
    have ih := addF_at c l
    cases hd : lower d.1 c.1 with
    | true =>
      have e : placeF c.1 (d :: l) = placeF c.1 l + 1 := by rw [placeF, if_pos hd]
      rw [addF, if_pos hd, ih]
      by_cases h : placeF c.1 l < l.length ∧ (l[placeF c.1 l]?.map (·.1)) = some c.1
      · rw [dif_pos h, dif_pos (by rw [e]; simpa using h)]
        simp [e]
      · rw [dif_neg h, dif_neg (by rw [e]; simpa using h)]
        simp [e]
    | false =>
      have e : placeF c.1 (d :: l) = 0 := by rw [placeF, if_neg (by simp [hd])]
      rw [addF, if_neg (by simp [hd])]
      by_cases hr : d.1 = c.1
      · rw [if_pos hr, dif_pos (by rw [e]; simp [hr])]
        simp [e, hr]
      · rw [if_neg hr, dif_neg (by rw [e]; simp [hr])]
        simp [e]
theorem addF_same {c : Chg} {l : List Chg} (h : placeF c.1 l < l.length) (e : l[placeF c.1 l].1 = c.1) : addF c l = l.set (placeF c.1 l) (c.1, l[placeF c.1 l].2 + c.2) := by
  rw [addF_at, dif_pos ⟨h, by rw [List.getElem?_eq_getElem h]; simp [e]⟩]
theorem addF_new {c : Chg} {l : List Chg} (h : ∀ hl : placeF c.1 l < l.length, l[placeF c.1 l].1 ≠ c.1) : addF c l = l.take (placeF c.1 l) ++ c :: l.drop (placeF c.1 l) := by
  rw [addF_at, dif_neg]
  rintro ⟨hl, e⟩
  rw [List.getElem?_eq_getElem hl] at e
  exact h hl (by simpa using e)
theorem addF_mem {c : Chg} : ∀ {l : List Chg} {x : Chg}, x ∈ addF c l → x.1 = c.1 ∨ x ∈ l
  | [], x, h => by simp [addF] at h; exact .inl (by rw [h])
  | d :: l, x, h => by
    rw [addF] at h
    split at h
    · rcases List.mem_cons.1 h with e | e
      · exact .inr (by rw [e]; simp)
      · rcases addF_mem e with e | e
        · exact .inl e
        · exact .inr (List.mem_cons_of_mem _ e)
    · split at h
      · rename_i hd
        rcases List.mem_cons.1 h with e | e
        · exact .inl (by rw [e]; exact hd)
        · exact .inr (List.mem_cons_of_mem _ e)
      · rcases List.mem_cons.1 h with e | e
        · exact .inl (by rw [e])
        · exact .inr e
theorem addF_srt {c : Chg} : ∀ {l : List Chg}, Srt l → Srt (addF c l)
  | [], _ => by simp [addF, Srt]
  | d :: l, h => by
    have h1 := List.pairwise_cons.1 h
    rw [addF]
    split
    · rename_i hd
      refine List.pairwise_cons.2 ⟨fun x hx => ?_, addF_srt h1.2⟩
      rcases addF_mem hx with e | e
      · rw [e]; exact hd
      · exact h1.1 x e
    · split
      · refine List.pairwise_cons.2 ⟨fun x hx => h1.1 x hx, h1.2⟩
      · rename_i hd hr
        have hcd : lower c.1 d.1 = true := by
          rcases lower_tot hr with e | e
          · exact absurd e hd
          · exact e
        refine List.pairwise_cons.2 ⟨fun x hx => ?_, h⟩
        rcases List.mem_cons.1 hx with e | e
        · rw [e]; exact hcd
        · exact lower_tr hcd (h1.1 x e)
theorem addF_sum (c : Chg) (r : R3) : ∀ l : List Chg, sumOf (addF c l) r = sumOf l r + (if c.1 = r then c.2 else 0)
  | [] => by simp [addF, sumOf]
  | d :: l => by
    have ih := addF_sum c r l
    rw [addF]
    split
    · simp only [sumOf]; rw [ih]; omega
    · split
      · rename_i hr
        simp only [sumOf, hr]
        split <;> omega
      · simp only [sumOf]; omega
theorem addF_len (c : Chg) : ∀ l : List Chg, (addF c l).length ≤ l.length + 1
  | [] => by simp [addF]
  | d :: l => by
    have ih := addF_len c l
    rw [addF]
    split
    · simp; omega
    · split <;> simp
/-- the sums of all these changes -/
def sumsF (l : List Chg) : List Chg := l.foldl (fun s c => addF c s) []
theorem sumsF_snoc (l : List Chg) (c : Chg) : sumsF (l ++ [c]) = addF c (sumsF l) := by simp [sumsF]
theorem sumsF_all : ∀ (n : Nat) (l : List Chg), l.length = n → Srt (sumsF l) ∧ (∀ r, sumOf (sumsF l) r = sumOf l r) ∧ (sumsF l).length ≤ l.length
  | 0, l, h => by
    obtain rfl := List.eq_nil_of_length_eq_zero h
    exact ⟨List.Pairwise.nil, fun r => rfl, Nat.le_refl _⟩
  | n + 1, l, h => by
    have e : l = l.take n ++ [l[n]] := by
      have := List.take_succ_eq_append_getElem (l := l) (i := n) (by omega)
      rw [← this, List.take_of_length_le (by omega)]
    have ih := sumsF_all n (l.take n) (by rw [List.length_take]; omega)
    have e2 : sumsF l = addF l[n] (sumsF (l.take n)) := by conv => lhs; rw [e, sumsF_snoc]
    rw [e2]
    refine ⟨addF_srt ih.1, fun r => ?_, ?_⟩
    · rw [addF_sum, ih.2.1]
      conv => rhs; rw [e, sumOf_app]
      simp [sumOf]
    · have h1 := addF_len l[n] (sumsF (l.take n))
      have h2 := ih.2.2
      rw [List.length_take] at h2
      omega
theorem sumsF_srt (l : List Chg) : Srt (sumsF l) := (sumsF_all _ l rfl).1
theorem sumsF_sum (l : List Chg) (r : R3) : sumOf (sumsF l) r = sumOf l r := (sumsF_all _ l rfl).2.1 r
theorem sumsF_len (l : List Chg) : (sumsF l).length ≤ l.length := (sumsF_all _ l rfl).2.2
/-- in rows of their order a row's sum stands at its place -/
theorem srt_sum {l : List Chg} (h : Srt l) (j : Nat) (hj : j < l.length) : sumOf l l[j].1 = l[j].2 := by
  induction l generalizing j with
  | nil => simp at hj
  | cons d l ih =>
    have h1 := List.pairwise_cons.1 h
    match j with
    | 0 =>
      have h0 : sumOf l d.1 = 0 := sumOf_none (fun c hc e => by have := h1.1 c hc; rw [e, lower_irr] at this; cases this)
      show (if d.1 = d.1 then d.2 else 0) + sumOf l d.1 = d.2
      rw [h0]; simp
    | j + 1 =>
      have hj2 : j < l.length := by simpa using hj
      have hne : d.1 ≠ l[j].1 := fun e => by
        have := h1.1 l[j] (List.getElem_mem _)
        rw [← e, lower_irr] at this; cases this
      have := ih h1.2 j hj2
      show (if d.1 = l[j].1 then d.2 else 0) + sumOf l l[j].1 = l[j].2
      rw [if_neg hne, this]; simp
/-- what the sums say of a row -/
theorem srt_of {l : List Chg} (h : Srt l) (r : R3) : sumOf l r = match l[placeF r l]? with | some c => if c.1 = r then c.2 else 0 | none => 0 := by
  by_cases hl : placeF r l < l.length
  · rw [List.getElem?_eq_getElem hl]
    show sumOf l r = if l[placeF r l].1 = r then l[placeF r l].2 else 0
    by_cases e : l[placeF r l].1 = r
    · rw [if_pos e]
      have := srt_sum h _ hl
      rw [e] at this; exact this
    · rw [if_neg e]
      refine sumOf_none (fun c hc ec => ?_)
      obtain ⟨j, hj, rfl⟩ := List.getElem_of_mem hc
      rcases Nat.lt_trichotomy j (placeF r l) with q | q | q
      · have := placeF_front r l j hj q
        rw [ec, lower_irr] at this; cases this
      · subst q; exact e ec
      · have h1 := (List.pairwise_iff_getElem.1 h) (placeF r l) j hl hj q
        have h2 := placeF_stop r l hl
        rw [ec] at h1
        rw [h1] at h2; cases h2
  · rw [List.getElem?_eq_none (by omega)]
    refine sumOf_none (fun c hc ec => ?_)
    obtain ⟨j, hj, rfl⟩ := List.getElem_of_mem hc
    have := placeF_front r l j hj (by omega)
    rw [ec, lower_irr] at this; cases this
theorem filter_sum (p : Chg → Bool) (l : List Chg) (hp : ∀ c ∈ l, p c = false → c.2 = 0) (r : R3) : sumOf (l.filter p) r = sumOf l r := by
  induction l with
  | nil => rfl
  | cons d l ih =>
    have i2 := ih (fun c hc => hp c (List.mem_cons_of_mem _ hc))
    cases hd : p d with
    | true => rw [List.filter_cons_of_pos hd]; simp only [sumOf]; rw [i2]
    | false =>
      rw [List.filter_cons_of_neg (by simp [hd])]
      have h0 := hp d (by simp) hd
      simp only [sumOf, h0]; rw [i2]; simp
theorem filter_total (p : Chg → Bool) (l : List Chg) (hp : ∀ c ∈ l, p c = false → c.2 = 0) : totalF (l.filter p) = totalF l := by
  induction l with
  | nil => rfl
  | cons d l ih =>
    have i2 := ih (fun c hc => hp c (List.mem_cons_of_mem _ hc))
    unfold totalF at i2 ⊢
    cases hd : p d with
    | true => rw [List.filter_cons_of_pos hd]; simp only [List.map_cons, List.sum_cons]; rw [i2]
    | false =>
      rw [List.filter_cons_of_neg (by simp [hd])]
      have h0 := hp d (by simp) hd
      simp only [List.map_cons, List.sum_cons, h0]; rw [i2]; simp
theorem sums_nz (t b : List Chg) : (sumsF (t ++ b)).filter (fun c => !(c.2 == 0)) = tableF t b := by
  refine IsTable.ext ⟨(sumsF_srt _).filter _, fun c hc => ?_⟩ (tableF_is t b) (fun r => ?_)
  · have := (List.mem_filter.1 hc).2; simpa using this
  · rw [filter_sum _ _ (fun c _ h => by simpa using h), sumsF_sum, sumOf_app, tableF_sum]
theorem sums_total (t b : List Chg) : totalF (sumsF (t ++ b)) = totalF (tableF t b) := by
  rw [← sums_nz, filter_total _ _ (fun c _ h => by simpa using h)]
theorem less_none : ∀ (l t : List Chg) (i : Nat), lessF t i l = none → ∀ c ∈ l, t.any (fun d => decide (d.1 = c.1) && decide (d.2 < 0)) = false
  | [], _, _, _, c, hc => by simp at hc
  | d :: l, t, i, h, c, hc => by
    rw [lessF] at h
    split at h
    · cases h
    · rename_i hd
      rcases List.mem_cons.1 hc with e | e
      · rw [e]; simpa using hd
      · exact less_none l t (i + 1) h c e
/-- all the copies that a table has are of rows that are there -/
def Pos (t : List Chg) : Prop := IsTable t ∧ ∀ c ∈ t, 0 < c.2
theorem sums_pos {t b : List Chg} (ht : Pos t) (hl : lessF (tableF t b) 0 b = none) : (sumsF (t ++ b)).filter (fun c => decide (0 < c.2)) = tableF t b := by
  rw [← sums_nz]
  refine List.filter_congr (fun c hc => ?_)
  obtain ⟨j, hj, rfl⟩ := List.getElem_of_mem hc
  have e := srt_sum (sumsF_srt (t ++ b)) j hj
  rw [sumsF_sum, sumOf_app] at e
  have h0 : 0 ≤ (sumsF (t ++ b))[j].2 := by
    rcases Int.lt_or_le (sumsF (t ++ b))[j].2 0 with h | h
    · exfalso
      by_cases hb : ∃ c ∈ b, c.1 = (sumsF (t ++ b))[j].1
      · obtain ⟨c, hc, hr⟩ := hb
        have := less_none b _ 0 hl c hc
        rw [less_any, hr, e] at this
        simp at this; omega
      · have hz : sumOf b (sumsF (t ++ b))[j].1 = 0 := sumOf_none (fun c hc er => hb ⟨c, hc, er⟩)
        rw [hz] at e
        have hne : (sumsF (t ++ b))[j].2 ≠ 0 := by omega
        have := (ht.1.sum (sumsF (t ++ b))[j].1 (sumsF (t ++ b))[j].2 hne).1 (by omega)
        have := ht.2 _ this
        simp at this; omega
    · exact h
  by_cases hz : (sumsF (t ++ b))[j].2 = 0
  · simp [hz]
  · have : 0 < (sumsF (t ++ b))[j].2 := by omega
    simp [hz, this]
end Pv
end Go.Proofs.YtcoofnhdbejnpaaGreatDoor

/- Plain mathematics: the tokens of a text that is written token by token. -/
namespace Go.Proofs.YtcoofnhdbejnpaaGreatDoor
namespace Pq
/-- what a token may be -/
def Tk (t : Bytes) : Prop := ∀ M : Bytes → Prop, (∀ (c : UInt8), isSgn c = true → M [c]) → (∀ (t : Bytes), t ≠ [] → t.length ≤ 2 → (∀ c ∈ t, isDig c = true) → M t) → (∀ (t : Bytes), t ≠ [] → t.length ≤ 8 → (∀ c ∈ t, isLet c = true) → M t) → M t
theorem Tk.sign (c : UInt8) (h : isSgn c = true) : Tk [c] := fun _ r0 _ _ => r0 c h
theorem Tk.digits (t : Bytes) (h0 : t ≠ []) (h2 : t.length ≤ 2) (h : ∀ c ∈ t, isDig c = true) : Tk t := fun _ _ r1 _ => r1 t h0 h2 h
theorem Tk.word (t : Bytes) (h0 : t ≠ []) (h8 : t.length ≤ 8) (h : ∀ c ∈ t, isLet c = true) : Tk t := fun _ _ _ r2 => r2 t h0 h8 h
theorem Tk_ind {motive : (t : Bytes) → Tk t → Prop} (sign : ∀ (c : UInt8) (h : isSgn c = true), motive [c] (Tk.sign c h)) (digits : ∀ (t : Bytes) (h0 : t ≠ []) (h2 : t.length ≤ 2) (h : ∀ c ∈ t, isDig c = true), motive t (Tk.digits t h0 h2 h)) (word : ∀ (t : Bytes) (h0 : t ≠ []) (h8 : t.length ≤ 8) (h : ∀ c ∈ t, isLet c = true), motive t (Tk.word t h0 h8 h)) (t : Bytes) (h : Tk t) : motive t h := by
  obtain ⟨_, q⟩ := h (fun t => ∃ h : Tk t, motive t h) (fun c h => ⟨_, sign c h⟩) (fun t h0 h2 h => ⟨_, digits t h0 h2 h⟩) (fun t h0 h8 h => ⟨_, word t h0 h8 h⟩)
  exact q
/-- a byte that ends every row -/
def isOther (c : UInt8) : Prop := isDig c = false ∧ isLet c = false
/-- what stands behind the token t does not go on with it -/
def Ends (t rest : Bytes) : Prop := (∃ c, t = [c] ∧ isSgn c = true) ∨ ∀ c r, rest = c :: r → isOther c
theorem drop_at (p : Bytes) (x : Bytes) : (p ++ x).drop p.length = x := by simp
theorem get_at (p : Bytes) (c : UInt8) (x : Bytes) (h : p.length < (p ++ c :: x).length) : (p ++ c :: x)[p.length]'h = c := by
  rw [List.getElem_append_right (Nat.le_refl _)]; simp
theorem sgn_blk {c : UInt8} (h : isSgn c = true) : isBlk c = false := by
  simp only [isSgn, isBlk, Bool.or_eq_true, beq_iff_eq, Bool.or_eq_false_iff, beq_eq_false_iff_ne] at *; omega
theorem dig_blk {c : UInt8} (h : isDig c = true) : isBlk c = false := by
  simp only [isDig, isBlk, Bool.and_eq_true, decide_eq_true_eq, Bool.or_eq_false_iff, beq_eq_false_iff_ne] at *; omega
theorem let_blk {c : UInt8} (h : isLet c = true) : isBlk c = false := by
  simp only [isLet, isBlk, Bool.and_eq_true, decide_eq_true_eq, Bool.or_eq_false_iff, beq_eq_false_iff_ne] at *; omega
theorem let_sgn {c : UInt8} (h : isLet c = true) : isSgn c = false := by
  simp only [isLet, isSgn, Bool.and_eq_true, decide_eq_true_eq, Bool.or_eq_false_iff, beq_eq_false_iff_ne] at *; omega
theorem let_dig {c : UInt8} (h : isLet c = true) : isDig c = false := by
  simp only [isLet, isDig, Bool.and_eq_true, decide_eq_true_eq, Bool.and_eq_false_iff, decide_eq_false_iff_not] at *; omega
theorem sgn_dig {c : UInt8} (h : isSgn c = true) : isDig c = false := by
  simp only [isSgn, isDig, Bool.or_eq_true, beq_iff_eq, Bool.and_eq_false_iff, decide_eq_false_iff_not] at *; omega
theorem blk_other {c : UInt8} (h : isBlk c = true) : isOther c := by
  simp only [isOther, isBlk, isDig, isLet, Bool.or_eq_true, beq_iff_eq, Bool.and_eq_false_iff, decide_eq_false_iff_not] at *; omega
theorem sgn_other {c : UInt8} (h : isSgn c = true) : isOther c := by
  simp only [isOther, isSgn, isDig, isLet, Bool.or_eq_true, beq_iff_eq, Bool.and_eq_false_iff, decide_eq_false_iff_not] at *; omega
theorem takeWhile_row {q : UInt8 → Bool} : ∀ (t rest : Bytes), (∀ c ∈ t, q c = true) → (∀ c r, rest = c :: r → q c = false) → (t ++ rest).takeWhile q = t
  | [], [], _, _ => rfl
  | [], c :: r, _, h => by simp [h c r rfl]
  | a :: t, rest, h1, h2 => by
    have ih := takeWhile_row t rest (fun c hc => h1 c (by simp [hc])) h2
    simp [h1 a (by simp), ih]
theorem rowEnd_row {q : UInt8 → Bool} (p t rest : Bytes) (h1 : ∀ c ∈ t, q c = true) (h2 : ∀ c r, rest = c :: r → q c = false) : rowEnd q (p ++ (t ++ rest)) p.length = p.length + t.length := by
  unfold rowEnd; rw [drop_at, takeWhile_row t rest h1 h2]
theorem tokEnd_tk {p t rest : Bytes} (ht : Tk t) (he : Ends t rest) : tokEnd (p ++ (t ++ rest)) p.length = p.length + t.length := by
  induction t, ht using Tk_ind with
  | sign c h =>
    have hl : p.length < (p ++ ([c] ++ rest)).length := by simp
    unfold tokEnd
    rw [dif_pos hl]
    have e : (p ++ ([c] ++ rest))[p.length]'hl = c := get_at p c rest hl
    rw [e, if_pos h]; rfl
  | digits t h0 h2 h =>
    obtain ⟨a, t', rfl⟩ := List.exists_cons_of_ne_nil h0
    have ha := h a (by simp)
    have hl : p.length < (p ++ (a :: t' ++ rest)).length := by simp
    have e : (p ++ (a :: t' ++ rest))[p.length]'hl = a := get_at p a (t' ++ rest) hl
    have hr : ∀ c r, rest = c :: r → isDig c = false := by
      rcases he with ⟨c, hc, hs⟩ | he
      · have : a = c := by simpa using congrArg (fun l => l.head?) hc
        subst this; rw [sgn_dig hs] at ha; cases ha
      · exact fun c r hr => (he c r hr).1
    have hre := rowEnd_row (q := isDig) p (a :: t') rest h hr
    unfold tokEnd
    rw [dif_pos hl, e, isSgn_not_dig ha, hre]
    simp only [Bool.false_eq_true, if_false, ha, if_true]
    rw [if_neg (by omega)]
  | word t h0 h8 h =>
    obtain ⟨a, t', rfl⟩ := List.exists_cons_of_ne_nil h0
    have ha := h a (by simp)
    have hl : p.length < (p ++ (a :: t' ++ rest)).length := by simp
    have e : (p ++ (a :: t' ++ rest))[p.length]'hl = a := get_at p a (t' ++ rest) hl
    have hr : ∀ c r, rest = c :: r → isLet c = false := by
      rcases he with ⟨c, hc, hs⟩ | he
      · have : a = c := by simpa using congrArg (fun l => l.head?) hc
        subst this; rw [let_sgn ha] at hs; cases hs
      · exact fun c r hr => (he c r hr).2
    have hre := rowEnd_row (q := isLet) p (a :: t') rest h hr
    unfold tokEnd
    rw [dif_pos hl, e, let_sgn ha, hre]
    simp only [Bool.false_eq_true, if_false, ha, if_true, let_dig ha]
    rw [if_neg (by omega)]
theorem tk_blk {t : Bytes} (ht : Tk t) : ∃ a t', t = a :: t' ∧ isBlk a = false := by
  induction t, ht using Tk_ind with
  | sign c h => exact ⟨c, [], rfl, sgn_blk h⟩
  | digits t h0 h2 h => obtain ⟨a, t', rfl⟩ := List.exists_cons_of_ne_nil h0; exact ⟨a, t', rfl, dig_blk (h a (by simp))⟩
  | word t h0 h8 h => obtain ⟨a, t', rfl⟩ := List.exists_cons_of_ne_nil h0; exact ⟨a, t', rfl, let_blk (h a (by simp))⟩
/-- a text as it is written: blanks, a token, and so on -/
def flat : List (Bytes × Bytes) → Bytes
  | [] => []
  | (s, t) :: r => s ++ (t ++ flat r)
/-- blanks are blanks, tokens are tokens, and none runs on into the next -/
def Wrote : List (Bytes × Bytes) → Prop
  | [] => True
  | (s, t) :: r => (∀ c ∈ s, isBlk c = true) ∧ Tk t ∧ Ends t (flat r) ∧ Wrote r
def headDig (t : Bytes) : Bool := match t with | c :: _ => isDig c | [] => false
theorem lex_blanks : ∀ (s p x : Bytes), (∀ c ∈ s, isBlk c = true) → lexFrom (p ++ (s ++ x)) p.length = lexFrom (p ++ (s ++ x)) (p ++ s).length
  | [], p, x, _ => by simp
  | a :: s, p, x, h => by
    have hl : p.length < (p ++ (a :: s ++ x)).length := by simp
    have e : (p ++ (a :: s ++ x))[p.length]'hl = a := get_at p a (s ++ x) hl
    rw [lexFrom_blk hl (by rw [e]; exact h a (by simp))]
    have ih := lex_blanks s (p ++ [a]) x (fun c hc => h c (by simp [hc]))
    have e2 : p ++ (a :: s ++ x) = p ++ [a] ++ (s ++ x) := by simp
    have e3 : p.length + 1 = (p ++ [a]).length := by simp
    have e4 : p ++ a :: s = p ++ [a] ++ s := by simp
    rw [e2, e3, e4]; exact ih
theorem lex_flat : ∀ (I : List (Bytes × Bytes)) (p : Bytes), Wrote I →
    (lexFrom (p ++ flat I) p.length).2 = -1 ∧ (lexFrom (p ++ flat I) p.length).1.map (fun t => (t.text, t.num)) = I.map (fun i => (i.2, headDig i.2))
  | [], p, _ => by
    rw [lexFrom_end (by simp [flat])]; simp
  | (s, t) :: r, p, h => by
    obtain ⟨hs, ht, he, hr⟩ := h
    obtain ⟨a, t', hta, hab⟩ := tk_blk ht
    simp only [flat]
    rw [lex_blanks s p _ hs]
    have hl : (p ++ s).length < (p ++ s ++ (t ++ flat r)).length := by simp [hta]
    have e0 : p ++ (s ++ (t ++ flat r)) = p ++ s ++ (t ++ flat r) := by simp
    have e : (p ++ s ++ (t ++ flat r))[(p ++ s).length]'hl = a := by
      have := get_at (p ++ s) a (t' ++ flat r) (by simp)
      simp only [hta]
      exact this
    have htk := tokEnd_tk (p := p ++ s) ht he
    have htl : 0 < t.length := by simp [hta]
    rw [e0]
    rw [lexFrom_tok hl (by rw [e]; exact hab) (by rw [htk]; omega)]
    have ih := lex_flat r (p ++ s ++ t) hr
    have e1 : p ++ s ++ (t ++ flat r) = p ++ s ++ t ++ flat r := by simp
    have e2 : (p ++ s).length + t.length = (p ++ s ++ t).length := (List.length_append (as := p ++ s) (bs := t)).symm
    rw [htk]
    rw [e2]
    have e3 : ((p ++ s ++ (t ++ flat r)).take (p ++ s ++ t).length).drop (p ++ s).length = t := by
      rw [e1, List.take_left' rfl]; exact drop_at (p ++ s) t
    refine ⟨?_, ?_⟩
    · simp only [e1]; exact ih.1
    · simp only [List.map_cons, e3, e]
      rw [e1, ih.2, hta]; rfl
end Pq
end Go.Proofs.YtcoofnhdbejnpaaGreatDoor

