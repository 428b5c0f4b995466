/- Plain functions: what package tables computes: rows kept in their order, with the sums of their changes. -/
import Derived.Test.YtcoofnhdbejnpaaGreatDoorG03
namespace Go.Proofs.YtcoofnhdbejnpaaGreatDoor
namespace Pv
/-- how many rows of the front stand ahead of r -/
def placeF (r : R3) : List Chg → Nat
  | [] => 0
  | c :: l => if lower c.1 r = true then placeF r l + 1 else 0
/-- a change joins the sums -/
def addF (c : Chg) : List Chg → List Chg
  | [] => [c]
  | d :: l => if lower d.1 c.1 = true then d :: addF c l else if d.1 = c.1 then (d.1, d.2 + c.2) :: l else c :: d :: l
def Srt (l : List Chg) : Prop := l.Pairwise (fun x y => lower x.1 y.1 = true)
theorem placeF_le (r : R3) : ∀ l : List Chg, placeF r l ≤ l.length
  | [] => Nat.le_refl _
  | c :: l => by
    have := placeF_le r l
    rw [placeF]; split
    · simp; omega
    · omega
theorem placeF_front (r : R3) : ∀ (l : List Chg) (j : Nat) (hj : j < l.length), j < placeF r l → lower l[j].1 r = true
  | [], j, hj, _ => by simp at hj
  | c :: l, j, hj, h => by
    rw [placeF] at h
    split at h
    · rename_i hc
      match j with
      | 0 => exact hc
      | j + 1 => exact placeF_front r l j (by simpa using hj) (by omega)
    · omega
theorem placeF_stop (r : R3) : ∀ (l : List Chg) (h : placeF r l < l.length), lower l[placeF r l].1 r = false
  | [], h => by simp at h
  | c :: l, h => by
    cases hc : lower c.1 r with
    | true =>
      have e : placeF r (c :: l) = placeF r l + 1 := by rw [placeF, if_pos hc]
      have h2 : placeF r l < l.length := by rw [e] at h; simpa using h
      have := placeF_stop r l h2
      have e2 : (c :: l)[placeF r (c :: l)] = l[placeF r l] := by simp [e]
      rw [e2]; exact this
    | false =>
      have e : placeF r (c :: l) = 0 := by rw [placeF, if_neg (by simp [hc])]
      have e2 : (c :: l)[placeF r (c :: l)] = c := by simp [e]
      rw [e2]; exact hc
/-- the place, by what stands there -/
theorem placeF_is (r : R3) (l : List Chg) (k : Nat) (hk : k ≤ l.length) (h1 : ∀ j (hj : j < l.length), j < k → lower l[j].1 r = true) (h2 : ∀ h : k < l.length, lower l[k].1 r = false) : placeF r l = k := by
  rcases Nat.lt_trichotomy (placeF r l) k with h | h | h
  · have hs := placeF_stop r l (by omega)
    rw [h1 _ (by omega) h] at hs; cases hs
  · exact h
  · have hf := placeF_front r l k (by have := placeF_le r l; omega) h
    rw [h2 (by have := placeF_le r l; omega)] at hf; cases hf
theorem addF_at (c : Chg) : ∀ l : List Chg, addF c l = if h : placeF c.1 l < l.length ∧ (l[placeF c.1 l]?.map (·.1)) = some c.1 then l.set (placeF c.1 l) (c.1, (l[placeF c.1 l]'h.1).2 + c.2) else l.take (placeF c.1 l) ++ c :: l.drop (placeF c.1 l)
  | [] => by simp [addF, placeF]
  | d :: l => by
    have ih := addF_at c l
    cases hd : lower d.1 c.1 with
    | true =>
      have e : placeF c.1 (d :: l) = placeF c.1 l + 1 := by rw [placeF, if_pos hd]
      rw [addF, if_pos hd, ih]
      by_cases h : placeF c.1 l < l.length ∧ (l[placeF c.1 l]?.map (·.1)) = some c.1
      · rw [dif_pos h, dif_pos (by rw [e]; simpa using h)]
        simp [e]
      · rw [dif_neg h, dif_neg (by rw [e]; simpa using h)]
        simp [e]
    | false =>
      have e : placeF c.1 (d :: l) = 0 := by rw [placeF, if_neg (by simp [hd])]
      rw [addF, if_neg (by simp [hd])]
      by_cases hr : d.1 = c.1
      · rw [if_pos hr, dif_pos (by rw [e]; simp [hr])]
        simp [e, hr]
      · rw [if_neg hr, dif_neg (by rw [e]; simp [hr])]
        simp [e]
theorem addF_same {c : Chg} {l : List Chg} (h : placeF c.1 l < l.length) (e : l[placeF c.1 l].1 = c.1) : addF c l = l.set (placeF c.1 l) (c.1, l[placeF c.1 l].2 + c.2) := by
  rw [addF_at, dif_pos ⟨h, by rw [List.getElem?_eq_getElem h]; simp [e]⟩]
theorem addF_new {c : Chg} {l : List Chg} (h : ∀ hl : placeF c.1 l < l.length, l[placeF c.1 l].1 ≠ c.1) : addF c l = l.take (placeF c.1 l) ++ c :: l.drop (placeF c.1 l) := by
  rw [addF_at, dif_neg]
  rintro ⟨hl, e⟩
  rw [List.getElem?_eq_getElem hl] at e
  exact h hl (by simpa using e)
theorem addF_mem {c : Chg} : ∀ {l : List Chg} {x : Chg}, x ∈ addF c l → x.1 = c.1 ∨ x ∈ l
  | [], x, h => by simp [addF] at h; exact .inl (by rw [h])
  | d :: l, x, h => by
    rw [addF] at h
    split at h
    · rcases List.mem_cons.1 h with e | e
      · exact .inr (by rw [e]; simp)
      · rcases addF_mem e with e | e
        · exact .inl e
        · exact .inr (List.mem_cons_of_mem _ e)
    · split at h
      · rename_i hd
        rcases List.mem_cons.1 h with e | e
        · exact .inl (by rw [e]; exact hd)
        · exact .inr (List.mem_cons_of_mem _ e)
      · rcases List.mem_cons.1 h with e | e
        · exact .inl (by rw [e])
        · exact .inr e
theorem addF_srt {c : Chg} : ∀ {l : List Chg}, Srt l → Srt (addF c l)
  | [], _ => by simp [addF, Srt]
  | d :: l, h => by
    have h1 := List.pairwise_cons.1 h
    rw [addF]
    split
    · rename_i hd
      refine List.pairwise_cons.2 ⟨fun x hx => ?_, addF_srt h1.2⟩
      rcases addF_mem hx with e | e
      · rw [e]; exact hd
      · exact h1.1 x e
    · split
      · refine List.pairwise_cons.2 ⟨fun x hx => h1.1 x hx, h1.2⟩
      · rename_i hd hr
        have hcd : lower c.1 d.1 = true := by
          rcases lower_tot hr with e | e
          · exact absurd e hd
          · exact e
        refine List.pairwise_cons.2 ⟨fun x hx => ?_, h⟩
        rcases List.mem_cons.1 hx with e | e
        · rw [e]; exact hcd
        · exact lower_tr hcd (h1.1 x e)
theorem addF_sum (c : Chg) (r : R3) : ∀ l : List Chg, sumOf (addF c l) r = sumOf l r + (if c.1 = r then c.2 else 0)
  | [] => by simp [addF, sumOf]
  | d :: l => by
    have ih := addF_sum c r l
    rw [addF]
    split
    · simp only [sumOf]; rw [ih]; omega
    · split
      · rename_i hr
        simp only [sumOf, hr]
        split <;> omega
      · simp only [sumOf]; omega
theorem addF_len (c : Chg) : ∀ l : List Chg, (addF c l).length ≤ l.length + 1
  | [] => by simp [addF]
  | d :: l => by
    have ih := addF_len c l
    rw [addF]
    split
    · simp; omega
    · split <;> simp
/-- the sums of all these changes -/
def sumsF (l : List Chg) : List Chg := l.foldl (fun s c => addF c s) []
theorem sumsF_snoc (l : List Chg) (c : Chg) : sumsF (l ++ [c]) = addF c (sumsF l) := by simp [sumsF]
theorem sumsF_all : ∀ (n : Nat) (l : List Chg), l.length = n → Srt (sumsF l) ∧ (∀ r, sumOf (sumsF l) r = sumOf l r) ∧ (sumsF l).length ≤ l.length
  | 0, l, h => by
    obtain rfl := List.eq_nil_of_length_eq_zero h
    exact ⟨List.Pairwise.nil, fun r => rfl, Nat.le_refl _⟩
  | n + 1, l, h => by
    have e : l = l.take n ++ [l[n]] := by
      have := List.take_succ_eq_append_getElem (l := l) (i := n) (by omega)
      rw [← this, List.take_of_length_le (by omega)]
    have ih := sumsF_all n (l.take n) (by rw [List.length_take]; omega)
    have e2 : sumsF l = addF l[n] (sumsF (l.take n)) := by conv => lhs; rw [e, sumsF_snoc]
    rw [e2]
    refine ⟨addF_srt ih.1, fun r => ?_, ?_⟩
    · rw [addF_sum, ih.2.1]
      conv => rhs; rw [e, sumOf_app]
      simp [sumOf]
    · have h1 := addF_len l[n] (sumsF (l.take n))
      have h2 := ih.2.2
      rw [List.length_take] at h2
      omega
theorem sumsF_srt (l : List Chg) : Srt (sumsF l) := (sumsF_all _ l rfl).1
theorem sumsF_sum (l : List Chg) (r : R3) : sumOf (sumsF l) r = sumOf l r := (sumsF_all _ l rfl).2.1 r
theorem sumsF_len (l : List Chg) : (sumsF l).length ≤ l.length := (sumsF_all _ l rfl).2.2
/-- in rows of their order a row's sum stands at its place -/
theorem srt_sum {l : List Chg} (h : Srt l) (j : Nat) (hj : j < l.length) : sumOf l l[j].1 = l[j].2 := by
  induction l generalizing j with
  | nil => simp at hj
  | cons d l ih =>
    have h1 := List.pairwise_cons.1 h
    match j with
    | 0 =>
      have h0 : sumOf l d.1 = 0 := sumOf_none (fun c hc e => by have := h1.1 c hc; rw [e, lower_irr] at this; cases this)
      show (if d.1 = d.1 then d.2 else 0) + sumOf l d.1 = d.2
      rw [h0]; simp
    | j + 1 =>
      have hj2 : j < l.length := by simpa using hj
      have hne : d.1 ≠ l[j].1 := fun e => by
        have := h1.1 l[j] (List.getElem_mem _)
        rw [← e, lower_irr] at this; cases this
      have := ih h1.2 j hj2
      show (if d.1 = l[j].1 then d.2 else 0) + sumOf l l[j].1 = l[j].2
      rw [if_neg hne, this]; simp
/-- what the sums say of a row -/
theorem srt_of {l : List Chg} (h : Srt l) (r : R3) : sumOf l r = match l[placeF r l]? with | some c => if c.1 = r then c.2 else 0 | none => 0 := by
  by_cases hl : placeF r l < l.length
  · rw [List.getElem?_eq_getElem hl]
    show sumOf l r = if l[placeF r l].1 = r then l[placeF r l].2 else 0
    by_cases e : l[placeF r l].1 = r
    · rw [if_pos e]
      have := srt_sum h _ hl
      rw [e] at this; exact this
    · rw [if_neg e]
      refine sumOf_none (fun c hc ec => ?_)
      obtain ⟨j, hj, rfl⟩ := List.getElem_of_mem hc
      rcases Nat.lt_trichotomy j (placeF r l) with q | q | q
      · have := placeF_front r l j hj q
        rw [ec, lower_irr] at this; cases this
      · subst q; exact e ec
      · have h1 := (List.pairwise_iff_getElem.1 h) (placeF r l) j hl hj q
        have h2 := placeF_stop r l hl
        rw [ec] at h1
        rw [h1] at h2; cases h2
  · rw [List.getElem?_eq_none (by omega)]
    refine sumOf_none (fun c hc ec => ?_)
    obtain ⟨j, hj, rfl⟩ := List.getElem_of_mem hc
    have := placeF_front r l j hj (by omega)
    rw [ec, lower_irr] at this; cases this
theorem filter_sum (p : Chg → Bool) (l : List Chg) (hp : ∀ c ∈ l, p c = false → c.2 = 0) (r : R3) : sumOf (l.filter p) r = sumOf l r := by
  induction l with
  | nil => rfl
  | cons d l ih =>
    have i2 := ih (fun c hc => hp c (List.mem_cons_of_mem _ hc))
    cases hd : p d with
    | true => rw [List.filter_cons_of_pos hd]; simp only [sumOf]; rw [i2]
    | false =>
      rw [List.filter_cons_of_neg (by simp [hd])]
      have h0 := hp d (by simp) hd
      simp only [sumOf, h0]; rw [i2]; simp
theorem filter_total (p : Chg → Bool) (l : List Chg) (hp : ∀ c ∈ l, p c = false → c.2 = 0) : totalF (l.filter p) = totalF l := by
  induction l with
  | nil => rfl
  | cons d l ih =>
    have i2 := ih (fun c hc => hp c (List.mem_cons_of_mem _ hc))
    unfold totalF at i2 ⊢
    cases hd : p d with
    | true => rw [List.filter_cons_of_pos hd]; simp only [List.map_cons, List.sum_cons]; rw [i2]
    | false =>
      rw [List.filter_cons_of_neg (by simp [hd])]
      have h0 := hp d (by simp) hd
      simp only [List.map_cons, List.sum_cons, h0]; rw [i2]; simp
theorem sums_nz (t b : List Chg) : (sumsF (t ++ b)).filter (fun c => !(c.2 == 0)) = tableF t b := by
  refine IsTable.ext ⟨(sumsF_srt _).filter _, fun c hc => ?_⟩ (tableF_is t b) (fun r => ?_)
  · have := (List.mem_filter.1 hc).2; simpa using this
  · rw [filter_sum _ _ (fun c _ h => by simpa using h), sumsF_sum, sumOf_app, tableF_sum]
theorem sums_total (t b : List Chg) : totalF (sumsF (t ++ b)) = totalF (tableF t b) := by
  rw [← sums_nz, filter_total _ _ (fun c _ h => by simpa using h)]
theorem less_none : ∀ (l t : List Chg) (i : Nat), lessF t i l = none → ∀ c ∈ l, t.any (fun d => decide (d.1 = c.1) && decide (d.2 < 0)) = false
  | [], _, _, _, c, hc => by simp at hc
  | d :: l, t, i, h, c, hc => by
    rw [lessF] at h
    split at h
    · cases h
    · rename_i hd
      rcases List.mem_cons.1 hc with e | e
      · rw [e]; simpa using hd
      · exact less_none l t (i + 1) h c e
/-- all the copies that a table has are of rows that are there -/
def Pos (t : List Chg) : Prop := IsTable t ∧ ∀ c ∈ t, 0 < c.2
theorem sums_pos {t b : List Chg} (ht : Pos t) (hl : lessF (tableF t b) 0 b = none) : (sumsF (t ++ b)).filter (fun c => decide (0 < c.2)) = tableF t b := by
  rw [← sums_nz]
  refine List.filter_congr (fun c hc => ?_)
  obtain ⟨j, hj, rfl⟩ := List.getElem_of_mem hc
  have e := srt_sum (sumsF_srt (t ++ b)) j hj
  rw [sumsF_sum, sumOf_app] at e
  have h0 : 0 ≤ (sumsF (t ++ b))[j].2 := by
    rcases Int.lt_or_le (sumsF (t ++ b))[j].2 0 with h | h
    · exfalso
      by_cases hb : ∃ c ∈ b, c.1 = (sumsF (t ++ b))[j].1
      · obtain ⟨c, hc, hr⟩ := hb
        have := less_none b _ 0 hl c hc
        rw [less_any, hr, e] at this
        simp at this; omega
      · have hz : sumOf b (sumsF (t ++ b))[j].1 = 0 := sumOf_none (fun c hc er => hb ⟨c, hc, er⟩)
        rw [hz] at e
        have hne : (sumsF (t ++ b))[j].2 ≠ 0 := by omega
        have := (ht.1.sum (sumsF (t ++ b))[j].1 (sumsF (t ++ b))[j].2 hne).1 (by omega)
        have := ht.2 _ this
        simp at this; omega
    · exact h
  by_cases hz : (sumsF (t ++ b))[j].2 = 0
  · simp [hz]
  · have : 0 < (sumsF (t ++ b))[j].2 := by omega
    simp [hz, this]
end Pv
end Go.Proofs.YtcoofnhdbejnpaaGreatDoor

