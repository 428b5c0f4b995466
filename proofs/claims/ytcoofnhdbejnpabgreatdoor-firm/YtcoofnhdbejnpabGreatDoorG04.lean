/- Plain functions: a line as package lines keeps it: rows in their order, each copy laid at its place. -/
import Derived.Test.YtcoofnhdbejnpabGreatDoorG03
namespace Go.Proofs.YtcoofnhdbejnpabGreatDoor
namespace Pv
open Pq Pr
/-- does a stand ahead of b in a line: by the KEYs, then by the rows -/
def aheadP : List (Nat × Bool) → R3 → R3 → Bool
  | [], a, b => lower a b
  | (c, d) :: ks, a, b => if colV c a = colV c b then aheadP ks a b else (decide (colV c a < colV c b) != d)
theorem aheadP_iff : ∀ (ks : List (Nat × Bool)) (a b : R3), aheadP ks a b = true ↔ beforeK ks a b = true ∨ (eqK ks a b ∧ lower a b = true)
  | [], a, b => by simp [aheadP, beforeK, eqK]
  | (c, d) :: ks, a, b => by
    have ih := aheadP_iff ks a b
    rw [aheadP, beforeK]
    by_cases h : colV c a = colV c b
    · rw [if_pos h, if_pos h, ih]
      have : eqK ((c, d) :: ks) a b ↔ eqK ks a b := by simp [eqK, h]
      rw [this]
    · rw [if_neg h, if_neg h]
      have : ¬ eqK ((c, d) :: ks) a b := fun q => h (q (c, d) (by simp))
      cases d <;> simp [this] <;> omega
theorem aheadP_copy (ks : List (Nat × Bool)) (a b : Cpy) : aheadF ks a b = true → aheadP ks b.1 a.1 = false := by
  intro h
  rw [Bool.eq_false_iff]
  intro h2
  rw [ahead_iff] at h
  rw [aheadP_iff] at h2
  rcases h with h | ⟨e, h⟩
  · rcases h2 with h2 | ⟨e2, _⟩
    · rw [bK_asym h] at h2; cases h2
    · rw [bK_eq e2.symm] at h; cases h
  · rcases h2 with h2 | ⟨_, h2⟩
    · rw [bK_eq e.symm] at h2; cases h2
    · rcases h with h | ⟨h, _⟩
      · rw [lower_asym h] at h2; cases h2
      · rw [h, lower_irr] at h2; cases h2
theorem aheadP_anti {ks : List (Nat × Bool)} {a b : R3} (h : aheadP ks a b = false) (h2 : aheadP ks b a = false) : a = b := by
  refine Classical.byContradiction fun hne => ?_
  have n1 : ¬ aheadP ks a b = true := by rw [h]; exact Bool.noConfusion
  have n2 : ¬ aheadP ks b a = true := by rw [h2]; exact Bool.noConfusion
  rw [aheadP_iff] at n1 n2
  have b1 : beforeK ks a b = false := by rw [Bool.eq_false_iff]; exact fun q => n1 (.inl q)
  have b2 : beforeK ks b a = false := by rw [Bool.eq_false_iff]; exact fun q => n2 (.inl q)
  have he := bK_tot b1 b2
  rcases lower_tot hne with q | q
  · exact n1 (.inr ⟨he, q⟩)
  · exact n2 (.inr ⟨he.symm, q⟩)
theorem aheadP_tr {ks : List (Nat × Bool)} {a b c : R3} (h : aheadP ks a b = true) (h2 : aheadP ks b c = true) : aheadP ks a c = true := by
  rw [aheadP_iff] at h h2 ⊢
  rcases h with h | ⟨e, h⟩
  · rcases h2 with h2 | ⟨e2, h2⟩
    · exact .inl (bK_tr h h2)
    · exact .inl (by rw [← bK_right e2]; exact h)
  · rcases h2 with h2 | ⟨e2, h2⟩
    · exact .inl (by rw [bK_left e]; exact h2)
    · exact .inr ⟨e.trans e2, lower_tr h h2⟩
theorem aheadP_irr (ks : List (Nat × Bool)) (a : R3) : aheadP ks a a = false := by
  rw [Bool.eq_false_iff]
  intro h
  rw [aheadP_iff, lower_irr, bK_eq (fun _ _ => rfl)] at h
  simp at h
theorem aheadP_asym {ks : List (Nat × Bool)} {a b : R3} (h : aheadP ks a b = true) : aheadP ks b a = false := by
  rw [Bool.eq_false_iff]
  intro h2
  have := aheadP_tr h h2
  rw [aheadP_irr] at this; cases this
/-- not behind, in a row -/
theorem leP_tr {ks : List (Nat × Bool)} {a b c : R3} (h : aheadP ks b a = false) (h2 : aheadP ks c b = false) : aheadP ks c a = false := by
  by_cases e : b = a
  · rw [← e]; exact h2
  · by_cases e2 : c = b
    · rw [e2]; exact h
    · rw [Bool.eq_false_iff]
      intro h3
      have h4 : aheadP ks a b = true := by
        cases h5 : aheadP ks a b with
        | true => rfl
        | false => exact absurd (aheadP_anti h5 h).symm e
      have := aheadP_tr h3 h4
      rw [h2] at this; cases this
/-- a line: rows in their order -/
def SrtL (ks : List (Nat × Bool)) (l : List R3) : Prop := l.Pairwise (fun x y => aheadP ks y x = false)
/-- how many of the front stand ahead of r -/
def plP (ks : List (Nat × Bool)) (r : R3) : List R3 → Nat
  | [] => 0
  | x :: l => if aheadP ks x r = true then plP ks r l + 1 else 0
def insP (ks : List (Nat × Bool)) (r : R3) (l : List R3) : List R3 := l.take (plP ks r l) ++ r :: l.drop (plP ks r l)
theorem plP_le (ks : List (Nat × Bool)) (r : R3) : ∀ l : List R3, plP ks r l ≤ l.length
  | [] => Nat.le_refl _
  | x :: l => by
    have := plP_le ks r l
    rw [plP]; split
    · simp; omega
    · omega
theorem plP_front (ks : List (Nat × Bool)) (r : R3) : ∀ (l : List R3) (j : Nat) (hj : j < l.length), j < plP ks r l → aheadP ks l[j] r = true
  | [], j, hj, _ => by simp at hj
  | c :: l, j, hj, h => by
    rw [plP] at h
    split at h
    · rename_i hc
      match j with
      | 0 => exact hc
      | j + 1 => exact plP_front ks r l j (by simpa using hj) (by omega)
    · omega
theorem plP_stop (ks : List (Nat × Bool)) (r : R3) : ∀ (l : List R3) (h : plP ks r l < l.length), aheadP ks l[plP ks r l] r = false
  | [], h => by simp at h
  | c :: l, h => by
    cases hc : aheadP ks c r with
    | true =>
      have e : plP ks r (c :: l) = plP ks r l + 1 := by rw [plP, if_pos hc]
      have h2 : plP ks r l < l.length := by rw [e] at h; simpa using h
      have := plP_stop ks r l h2
      have e2 : (c :: l)[plP ks r (c :: l)] = l[plP ks r l] := by simp [e]
      rw [e2]; exact this
    | false =>
      have e : plP ks r (c :: l) = 0 := by rw [plP, if_neg (by simp [hc])]
      have e2 : (c :: l)[plP ks r (c :: l)] = c := by simp [e]
      rw [e2]; exact hc
theorem plP_is (ks : List (Nat × Bool)) (r : R3) (l : List R3) (k : Nat) (hk : k ≤ l.length) (h1 : ∀ j (hj : j < l.length), j < k → aheadP ks l[j] r = true) (h2 : ∀ h : k < l.length, aheadP ks l[k] r = false) : plP ks r l = k := by
  rcases Nat.lt_trichotomy (plP ks r l) k with h | h | h
  · have hs := plP_stop ks r l (by omega)
    rw [h1 _ (by omega) h] at hs; cases hs
  · exact h
  · have hf := plP_front ks r l k (by have := plP_le ks r l; omega) h
    rw [h2 (by have := plP_le ks r l; omega)] at hf; cases hf
theorem insP_perm (ks : List (Nat × Bool)) (r : R3) (l : List R3) : (insP ks r l).Perm (r :: l) := by
  unfold insP
  refine List.perm_middle.trans ?_
  rw [List.take_append_drop]
theorem insP_len (ks : List (Nat × Bool)) (r : R3) (l : List R3) : (insP ks r l).length = l.length + 1 := (insP_perm ks r l).length_eq
theorem insP_srt {ks : List (Nat × Bool)} {r : R3} {l : List R3} (h : SrtL ks l) : SrtL ks (insP ks r l) := by
  have hst : ∀ j (hj : j < l.length), plP ks r l ≤ j → aheadP ks l[j] r = false := fun j hj hle => by
    have h0 := plP_stop ks r l (by omega)
    rcases Nat.lt_or_eq_of_le hle with h1 | h1
    · exact leP_tr h0 ((List.pairwise_iff_getElem.1 h) _ _ (by omega) hj h1)
    · subst h1; exact h0
  unfold SrtL insP
  rw [List.pairwise_append, List.pairwise_cons]
  have h1 : (l.take (plP ks r l) ++ l.drop (plP ks r l)).Pairwise (fun x y => aheadP ks y x = false) := by rw [List.take_append_drop]; exact h
  rw [List.pairwise_append] at h1
  have hin : ∀ x ∈ l.take (plP ks r l), aheadP ks r x = false := fun x hx => by
    obtain ⟨j, hj, rfl⟩ := List.getElem_of_mem hx
    rw [List.length_take] at hj
    rw [List.getElem_take]
    exact aheadP_asym (plP_front ks r l j (by omega) (by omega))
  refine ⟨h1.1, ⟨fun x hx => ?_, h1.2.1⟩, fun x hx y hy => ?_⟩
  · obtain ⟨j, hj, rfl⟩ := List.getElem_of_mem hx
    rw [List.length_drop] at hj
    rw [List.getElem_drop]
    exact hst _ (by omega) (by omega)
  · rcases List.mem_cons.1 hy with rfl | hy
    · exact hin x hx
    · exact h1.2.2 x hx y hy
/-- a line by what it holds -/
theorem srtL_eq {ks : List (Nat × Bool)} {a b : List R3} (ha : SrtL ks a) (hb : SrtL ks b) (h : ∀ x, a.count x = b.count x) : a = b :=
  List.Perm.eq_of_pairwise (fun _ _ _ _ h1 h2 => aheadP_anti h2 h1) ha hb (List.perm_iff_count.2 h)
/-- so many copies of a row -/
def insN (ks : List (Nat × Bool)) (r : R3) : Nat → List R3 → List R3
  | 0, l => l
  | n + 1, l => insP ks r (insN ks r n l)
theorem insN_perm (ks : List (Nat × Bool)) (r : R3) : ∀ (n : Nat) (l : List R3), (insN ks r n l).Perm (List.replicate n r ++ l)
  | 0, l => by simp [insN]
  | n + 1, l => by
    rw [insN, List.replicate_succ, List.cons_append]
    exact (insP_perm ks r _).trans ((insN_perm ks r n l).cons r)
theorem insN_srt {ks : List (Nat × Bool)} {r : R3} {l : List R3} (h : SrtL ks l) : ∀ n, SrtL ks (insN ks r n l)
  | 0 => h
  | n + 1 => insP_srt (insN_srt h n)
theorem insN_len (ks : List (Nat × Bool)) (r : R3) (n : Nat) (l : List R3) : (insN ks r n l).length = n + l.length := by
  have := (insN_perm ks r n l).length_eq
  simpa using this
/-- the rows of the document's line -/
def lineR (ks : List (Nat × Bool)) (cs : List Nat) (t : List Chg) (r : R3) : List R3 := (lineF ks cs t r).map (·.1)
theorem lineR_srt (ks : List (Nat × Bool)) {cs : List Nat} {t : List Chg} (ht : IsTable t) (r : R3) : SrtL ks (lineR ks cs t r) := by
  unfold SrtL lineR
  rw [List.pairwise_map, List.pairwise_iff_getElem]
  intro i j hi hj hij
  exact aheadP_copy ks _ _ ((line_spec ks ht r).2.2 i j _ _ (List.getElem?_eq_getElem hi) (List.getElem?_eq_getElem hj) hij)
theorem nodup_perm {α : Type} [DecidableEq α] {a b : List α} (ha : a.Nodup) (hb : b.Nodup) (h : ∀ x, x ∈ a ↔ x ∈ b) : a.Perm b := by
  rw [List.perm_iff_count]
  intro x
  rw [ha.count, hb.count]
  by_cases hx : x ∈ a
  · rw [if_pos hx, if_pos ((h x).1 hx)]
  · rw [if_neg hx, if_neg (fun q => hx ((h x).2 q))]
theorem line_perm (ks : List (Nat × Bool)) {cs : List Nat} {t : List Chg} (ht : IsTable t) (r : R3) : (lineF ks cs t r).Perm (copiesF cs t r) := by
  refine nodup_perm ?_ (copies_nodup ht r) (line_spec ks ht r).2.1
  rw [List.nodup_iff_pairwise_ne, List.pairwise_iff_getElem]
  intro i j hi hj hij e
  have := (line_spec ks ht r).2.2 i j _ _ (List.getElem?_eq_getElem hi) (List.getElem?_eq_getElem hj) hij
  rw [e, ahead_irr] at this; cases this
theorem copies_rows (cs : List Nat) (t : List Chg) (r : R3) : (copiesF cs t r).map (·.1) = t.flatMap (fun c => if matesC cs c.1 r then List.replicate c.2.toNat c.1 else []) := by
  unfold copiesF
  rw [List.map_flatMap]
  congr 1
  funext c
  split
  · rw [List.map_map]
    have : ((fun x : Cpy => x.1) ∘ fun k => (c.1, k)) = fun _ : Nat => c.1 := rfl
    rw [this, List.map_const']
    simp
  · rfl
theorem matesC_iff (cs : List Nat) (a b : R3) : matesC cs a b = true ↔ ∀ c ∈ cs, colV c a = colV c b := by simp [matesC]
theorem mates_symm {cs : List Nat} {a b : R3} (h : matesC cs a b = true) : matesC cs b a = true := by
  rw [matesC_iff] at h ⊢; exact fun c hc => (h c hc).symm
theorem mates_trans {cs : List Nat} {a b c : R3} (h : matesC cs a b = true) (h2 : matesC cs b c = true) : matesC cs a c = true := by
  rw [matesC_iff] at h h2 ⊢; exact fun q hq => (h q hq).trans (h2 q hq)
theorem mates_refl (cs : List Nat) (a : R3) : matesC cs a a = true := by rw [matesC_iff]; exact fun _ _ => rfl
theorem copies_count {cs : List Nat} {t : List Chg} (hp : ∀ c ∈ t, 0 ≤ c.2) (r x : R3) : ((copiesF cs t r).map (·.1)).count x = if matesC cs x r then (sumOf t x).toNat else 0 := by
  rw [copies_rows]
  have hnn : ∀ (t : List Chg), (∀ c ∈ t, 0 ≤ c.2) → 0 ≤ sumOf t x := by
    intro t
    induction t with
    | nil => intro _; simp [sumOf]
    | cons c t ih =>
      intro h
      have i := ih (fun d hd => h d (List.mem_cons_of_mem _ hd))
      have hc := h c (List.mem_cons_self ..)
      rw [sumOf]
      split <;> omega
  induction t with
  | nil => simp [sumOf]
  | cons c t ih =>
    have i := ih (fun d hd => hp d (List.mem_cons_of_mem _ hd))
    have hc := hp c (List.mem_cons_self ..)
    have hn := hnn t (fun d hd => hp d (List.mem_cons_of_mem _ hd))
    rw [List.flatMap_cons, List.count_append, i, sumOf]
    by_cases e : c.1 = x
    · rw [if_pos e, e]
      split
      · rw [List.count_replicate]; simp; omega
      · simp
    · rw [if_neg e]
      have : List.count x (if matesC cs c.1 r = true then List.replicate c.2.toNat c.1 else []) = 0 := by
        rw [List.count_eq_zero]
        intro h
        split at h
        · exact e (List.eq_of_mem_replicate h).symm
        · simp at h
      rw [this]; simp
theorem lineR_count (ks : List (Nat × Bool)) {cs : List Nat} {t : List Chg} (ht : IsTable t) (hp : ∀ c ∈ t, 0 ≤ c.2) (r x : R3) : (lineR ks cs t r).count x = if matesC cs x r then (sumOf t x).toNat else 0 := by
  rw [← copies_count hp r x]
  exact ((line_perm ks ht r).map _).count_eq x
end Pv
end Go.Proofs.YtcoofnhdbejnpabGreatDoor

/- Plain functions: all the lines of a table, as package lines lays them: each is the document's line of its part. -/
namespace Go.Proofs.YtcoofnhdbejnpabGreatDoor
namespace Pv
open Pq Pr
/-- is the line the part of r -/
def isPart (cs : List Nat) (l : List R3) (r : R3) : Bool := match l with | [] => false | x :: _ => matesC cs x r
/-- which line is the part of r: how many there are, if none is -/
def partAt (cs : List Nat) (r : R3) : List (List R3) → Nat
  | [] => 0
  | l :: all => if isPart cs l r = true then 0 else partAt cs r all + 1
theorem partAt_le (cs : List Nat) (r : R3) : ∀ all : List (List R3), partAt cs r all ≤ all.length
  | [] => Nat.le_refl _
  | l :: all => by
    have := partAt_le cs r all
    rw [partAt]; split
    · omega
    · simp; omega
theorem partAt_front (cs : List Nat) (r : R3) : ∀ (all : List (List R3)) (j : Nat) (hj : j < all.length), j < partAt cs r all → isPart cs all[j] r = false
  | [], j, hj, _ => by simp at hj
  | l :: all, j, hj, h => by
    rw [partAt] at h
    split at h
    · omega
    · rename_i hc
      match j with
      | 0 => simpa using hc
      | j + 1 => exact partAt_front cs r all j (by simpa using hj) (by omega)
theorem partAt_stop (cs : List Nat) (r : R3) : ∀ (all : List (List R3)) (h : partAt cs r all < all.length), isPart cs all[partAt cs r all] r = true
  | [], h => by simp at h
  | l :: all, h => by
    cases hc : isPart cs l r with
    | false =>
      have e : partAt cs r (l :: all) = partAt cs r all + 1 := by rw [partAt, if_neg (by simp [hc])]
      have h2 : partAt cs r all < all.length := by rw [e] at h; simpa using h
      have := partAt_stop cs r all h2
      have e2 : (l :: all)[partAt cs r (l :: all)] = all[partAt cs r all] := by simp [e]
      rw [e2]; exact this
    | true =>
      have e : partAt cs r (l :: all) = 0 := by rw [partAt, if_pos hc]
      have e2 : (l :: all)[partAt cs r (l :: all)] = l := by simp [e]
      rw [e2]; exact hc
theorem partAt_is (cs : List Nat) (r : R3) (all : List (List R3)) (k : Nat) (hk : k ≤ all.length) (h1 : ∀ j (hj : j < all.length), j < k → isPart cs all[j] r = false) (h2 : ∀ h : k < all.length, isPart cs all[k] r = true) : partAt cs r all = k := by
  rcases Nat.lt_trichotomy (partAt cs r all) k with h | h | h
  · have hs := partAt_stop cs r all (by omega)
    rw [h1 _ (by omega) h] at hs; cases hs
  · exact h
  · have hf := partAt_front cs r all k (by have := partAt_le cs r all; omega) h
    rw [h2 (by have := partAt_le cs r all; omega)] at hf; cases hf
/-- the lines, with room for the part of r -/
def roomP (cs : List Nat) (r : R3) (all : List (List R3)) : List (List R3) := if partAt cs r all = all.length then all ++ [[]] else all
def layN (ks : List (Nat × Bool)) (cs : List Nat) (all : List (List R3)) (r : R3) (n : Nat) : List (List R3) := (roomP cs r all).modify (partAt cs r all) (insN ks r n)
def linesP (ks : List (Nat × Bool)) (cs : List Nat) (t : List Chg) : List (List R3) := t.foldl (fun all c => layN ks cs all c.1 c.2.toNat) []
theorem linesP_snoc (ks : List (Nat × Bool)) (cs : List Nat) (t : List Chg) (c : Chg) : linesP ks cs (t ++ [c]) = layN ks cs (linesP ks cs t) c.1 c.2.toNat := by simp [linesP]
theorem linesP_take (ks : List (Nat × Bool)) (cs : List Nat) (t : List Chg) (k : Nat) (h : k < t.length) : linesP ks cs (t.take (k + 1)) = layN ks cs (linesP ks cs (t.take k)) t[k].1 t[k].2.toNat := by
  rw [List.take_succ_eq_append_getElem h, linesP_snoc]
/-- what holds of the lines of these changes -/
structure LInv (ks : List (Nat × Bool)) (cs : List Nat) (t : List Chg) (all : List (List R3)) : Prop where
  ne : ∀ l ∈ all, l ≠ []
  srt : ∀ l ∈ all, SrtL ks l
  one : ∀ l ∈ all, ∀ x ∈ l, ∀ y ∈ l, matesC cs x y = true
  dis : all.Pairwise (fun l m => ∀ x ∈ l, ∀ y ∈ m, matesC cs x y = false)
  cnt : ∀ x, (all.map (List.count x)).sum = (sumOf t x).toNat
theorem LInv.nil (ks : List (Nat × Bool)) (cs : List Nat) : LInv ks cs [] [] :=
  ⟨fun _ h => (List.not_mem_nil h).elim, fun _ h => (List.not_mem_nil h).elim, fun _ h => (List.not_mem_nil h).elim, List.Pairwise.nil, fun _ => rfl⟩
theorem isPart_of {cs : List Nat} {l : List R3} (hne : l ≠ []) (hone : ∀ x ∈ l, ∀ y ∈ l, matesC cs x y = true) {x r : R3} (hx : x ∈ l) : isPart cs l r = matesC cs x r := by
  match l, hne with
  | a :: l, _ =>
    show matesC cs a r = matesC cs x r
    rw [Bool.eq_iff_iff]
    have := hone a (by simp) x hx
    exact ⟨fun h => mates_trans (mates_symm this) h, fun h => mates_trans this h⟩
theorem modify_split {α : Type} (A : List α) (x : α) (B : List α) (f : α → α) : (A ++ x :: B).modify A.length f = A ++ f x :: B := by
  rw [List.modify_eq_take_cons_drop (by simp)]
  simp
theorem LInv.step {ks : List (Nat × Bool)} {cs : List Nat} {t : List Chg} {all : List (List R3)} (h : LInv ks cs t all) (hp : ∀ c ∈ t, 0 ≤ c.2) (c : Chg) (hc : 1 ≤ c.2) : LInv ks cs (t ++ [c]) (layN ks cs all c.1 c.2.toNat) := by
  have hnn : 0 ≤ sumOf t c.1 := by
    have : ∀ (t : List Chg), (∀ c ∈ t, 0 ≤ c.2) → 0 ≤ sumOf t c.1 := by
      intro t
      induction t with
      | nil => intro _; simp [sumOf]
      | cons d t ih =>
        intro h
        have i := ih (fun d hd => h d (List.mem_cons_of_mem _ hd))
        have hd := h d (List.mem_cons_self ..)
        rw [sumOf]
        split <;> omega
    exact this t hp
  have hsum : ∀ x, (sumOf (t ++ [c]) x).toNat = (sumOf t x).toNat + (if c.1 = x then c.2.toNat else 0) := fun x => by
    rw [sumOf_app]
    have e : sumOf [c] x = if c.1 = x then c.2 else 0 := by simp [sumOf]
    rw [e]
    by_cases q : c.1 = x
    · subst q; rw [if_pos rfl, if_pos rfl]; omega
    · rw [if_neg q, if_neg q]; simp
  have hrep : ∀ x (l : List R3), (insN ks c.1 c.2.toNat l).count x = l.count x + (if c.1 = x then c.2.toNat else 0) := fun x l => by
    rw [(insN_perm ks c.1 _ l).count_eq x, List.count_append, List.count_replicate]
    by_cases q : c.1 = x
    · simp [q]; omega
    · simp [q]
  have hin : ∀ x (l : List R3), x ∈ insN ks c.1 c.2.toNat l ↔ x = c.1 ∨ x ∈ l := fun x l => by
    rw [(insN_perm ks c.1 _ l).mem_iff, List.mem_append, List.mem_replicate]
    constructor
    · rintro (h | h)
      · exact .inl h.2
      · exact .inr h
    · rintro (h | h)
      · exact .inl ⟨by omega, h⟩
      · exact .inr h
  unfold layN roomP
  by_cases hlt : partAt cs c.1 all = all.length
  · rw [if_pos hlt, hlt, modify_split]
    have hno : ∀ l ∈ all, ∀ x ∈ l, matesC cs x c.1 = false := fun l hl x hx => by
      obtain ⟨j, hj, rfl⟩ := List.getElem_of_mem hl
      have := partAt_front cs c.1 all j hj (by omega)
      rw [isPart_of (h.ne _ hl) (h.one _ hl) hx] at this
      exact this
    have hm : ∀ x, x ∈ insN ks c.1 c.2.toNat [] ↔ x = c.1 := fun x => by rw [hin]; simp
    refine ⟨fun l hl => ?_, fun l hl => ?_, fun l hl x hx y hy => ?_, ?_, fun x => ?_⟩
    · rcases List.mem_append.1 hl with hl | hl
      · exact h.ne l hl
      · rw [List.mem_singleton.1 hl]
        intro e
        have := (hm c.1).2 rfl
        rw [e] at this; simp at this
    · rcases List.mem_append.1 hl with hl | hl
      · exact h.srt l hl
      · rw [List.mem_singleton.1 hl]
        exact insN_srt List.Pairwise.nil _
    · rcases List.mem_append.1 hl with hl | hl
      · exact h.one l hl x hx y hy
      · rw [List.mem_singleton.1 hl] at hx hy
        rw [(hm x).1 hx, (hm y).1 hy]; exact mates_refl cs _
    · rw [List.pairwise_append]
      refine ⟨h.dis, List.pairwise_singleton _ _, fun l hl m hm2 x hx y hy => ?_⟩
      rw [List.mem_singleton.1 hm2] at hy
      rw [(hm y).1 hy]
      exact hno l hl x hx
    · rw [List.map_append, List.sum_append, h.cnt, hsum, List.map_singleton, hrep]
      simp
  · rw [if_neg hlt]
    have hl2 : partAt cs c.1 all < all.length := by have := partAt_le cs c.1 all; omega
    have hst := partAt_stop cs c.1 all hl2
    have hsp : all = all.take (partAt cs c.1 all) ++ all[partAt cs c.1 all] :: all.drop (partAt cs c.1 all + 1) := by
      rw [← List.drop_eq_getElem_cons hl2, List.take_append_drop]
    have hA : (all.take (partAt cs c.1 all)).length = partAt cs c.1 all := by rw [List.length_take]; omega
    generalize hp1 : all.take (partAt cs c.1 all) = A at *
    generalize hp2 : all[partAt cs c.1 all] = L at *
    generalize hp3 : all.drop (partAt cs c.1 all + 1) = B at *
    have hmod : all.modify (partAt cs c.1 all) (insN ks c.1 c.2.toNat) = A ++ insN ks c.1 c.2.toNat L :: B := by
      conv => lhs; rw [← hA]
      rw [hsp, modify_split]
    rw [hmod]
    clear hmod hp1 hp2 hp3 hA hl2 hlt
    subst hsp
    have hL : L ∈ A ++ L :: B := by simp
    obtain ⟨a, ha⟩ : ∃ a, a ∈ L := List.exists_mem_of_ne_nil _ (h.ne L hL)
    have hac : matesC cs a c.1 = true := by rw [← isPart_of (h.ne L hL) (h.one L hL) ha]; exact hst
    have hmL : ∀ x ∈ L, matesC cs x c.1 = true := fun x hx => mates_trans (h.one L hL x hx a ha) hac
    have hd := h.dis
    rw [List.pairwise_append, List.pairwise_cons] at hd
    have hno : ∀ l, (l ∈ A ∨ l ∈ B) → ∀ x ∈ l, matesC cs x c.1 = false := fun l hl x hx => by
      rw [Bool.eq_false_iff]
      intro q
      have q2 : matesC cs x a = true := mates_trans q (mates_symm hac)
      rcases hl with hl | hl
      · rw [hd.2.2 l hl L (by simp) x hx a ha] at q2; cases q2
      · have := hd.2.1.1 l hl a ha x hx
        rw [mates_symm q2] at this; cases this
    have hsy : ∀ {x y : R3}, matesC cs x y = false → matesC cs y x = false := fun {x y} q => by
      rw [Bool.eq_false_iff] at q ⊢
      exact fun q2 => q (mates_symm q2)
    have hcs : ∀ l, l ∈ A ++ insN ks c.1 c.2.toNat L :: B → (l ∈ A ++ L :: B ∨ l = insN ks c.1 c.2.toNat L) := fun l hl => by
      rcases List.mem_append.1 hl with hl | hl
      · exact .inl (List.mem_append_left _ hl)
      · rcases List.mem_cons.1 hl with hl | hl
        · exact .inr hl
        · exact .inl (List.mem_append_right _ (List.mem_cons_of_mem _ hl))
    refine ⟨fun l hl => ?_, fun l hl => ?_, fun l hl x hx y hy => ?_, ?_, fun x => ?_⟩
    · rcases hcs l hl with hl | rfl
      · exact h.ne l hl
      · intro e
        have := (hin c.1 L).2 (.inl rfl)
        rw [e] at this; simp at this
    · rcases hcs l hl with hl | rfl
      · exact h.srt l hl
      · exact insN_srt (h.srt L hL) _
    · rcases hcs l hl with hl | rfl
      · exact h.one l hl x hx y hy
      · rw [hin] at hx hy
        have key : ∀ z, (z = c.1 ∨ z ∈ L) → matesC cs z c.1 = true := by
          rintro z (rfl | hz)
          · exact mates_refl cs _
          · exact hmL z hz
        exact mates_trans (key x hx) (mates_symm (key y hy))
    · rw [List.pairwise_append, List.pairwise_cons]
      refine ⟨hd.1, ⟨fun m hm x hx y hy => ?_, hd.2.1.2⟩, fun l hl m hm x hx y hy => ?_⟩
      · rcases (hin x L).1 hx with rfl | hx
        · exact hsy (hno m (.inr hm) y hy)
        · exact hd.2.1.1 m hm x hx y hy
      · rcases List.mem_cons.1 hm with rfl | hm
        · rcases (hin y L).1 hy with rfl | hy
          · exact hno l (.inl hl) x hx
          · exact hd.2.2 l hl L (by simp) x hx y hy
        · exact hd.2.2 l hl m (by simp [hm]) x hx y hy
    · have hc0 := h.cnt x
      simp only [List.map_append, List.map_cons, List.sum_append, List.sum_cons] at hc0 ⊢
      rw [hsum, hrep, ← hc0]
      omega
theorem LInv.lines (ks : List (Nat × Bool)) (cs : List Nat) : ∀ (n : Nat) (t : List Chg), t.length = n → (∀ c ∈ t, 1 ≤ c.2) → LInv ks cs t (linesP ks cs t)
  | 0, t, h, _ => by
    obtain rfl := List.eq_nil_of_length_eq_zero h
    exact LInv.nil ks cs
  | n + 1, t, h, hp => by
    have e : t = t.take n ++ [t[n]] := by
      have := List.take_succ_eq_append_getElem (l := t) (i := n) (by omega)
      rw [← this, List.take_of_length_le (by omega)]
    have hin : ∀ c ∈ t.take n, c ∈ t := fun c hc => List.mem_of_mem_take hc
    have ih := LInv.lines ks cs n (t.take n) (by rw [List.length_take]; omega) (fun c hc => hp c (hin c hc))
    have := ih.step (fun c hc => by have := hp c (hin c hc); omega) t[n] (hp _ (List.getElem_mem _))
    rw [← linesP_snoc, ← e] at this
    exact this
/-- a line that holds a row is the document's line of its part -/
theorem LInv.line {ks : List (Nat × Bool)} {cs : List Nat} {t : List Chg} {all : List (List R3)} (h : LInv ks cs t all) (ht : IsTable t) (hp : ∀ c ∈ t, 0 ≤ c.2) {l : List R3} (hl : l ∈ all) {x : R3} (hx : x ∈ l) : l = lineR ks cs t x := by
  refine srtL_eq (h.srt l hl) (lineR_srt ks ht x) (fun y => ?_)
  rw [lineR_count ks ht hp]
  by_cases hy : matesC cs y x = true
  · rw [if_pos hy, ← h.cnt y]
    obtain ⟨A, B, rfl⟩ := List.append_of_mem hl
    have hd := h.dis
    rw [List.pairwise_append, List.pairwise_cons] at hd
    have h0 : ∀ (A : List (List R3)), (∀ m ∈ A, y ∉ m) → (A.map (List.count y)).sum = 0 := by
      intro A
      induction A with
      | nil => intro _; rfl
      | cons m A ih =>
        intro q
        rw [List.map_cons, List.sum_cons, ih (fun m hm => q m (by simp [hm])), List.count_eq_zero.2 (q m (by simp))]
    rw [List.map_append, List.map_cons, List.sum_append, List.sum_cons, h0 A, h0 B]
    · omega
    · intro m hm q
      have := hd.2.1.1 m hm x hx y q
      rw [mates_symm hy] at this; cases this
    · intro m hm q
      have := hd.2.2 m hm l (by simp) y q x hx
      rw [hy] at this; cases this
  · rw [if_neg hy, List.count_eq_zero]
    exact fun q => hy (h.one l hl y q x hx)
theorem sum_pos_mem {t : List Chg} (hp : ∀ c ∈ t, 1 ≤ c.2) {c : Chg} (hc : c ∈ t) : 0 < sumOf t c.1 := by
  induction t with
  | nil => simp at hc
  | cons d t ih =>
    have h1 := hp d (by simp)
    have h2 := sumOf_nn (fun e he => hp e (List.mem_cons_of_mem _ he)) c.1
    rw [sumOf]
    rcases List.mem_cons.1 hc with rfl | hc
    · rw [if_pos rfl]; omega
    · have := ih (fun e he => hp e (List.mem_cons_of_mem _ he)) hc
      split <;> omega
/-- each row of the table stands in a line -/
theorem LInv.has {ks : List (Nat × Bool)} {cs : List Nat} {t : List Chg} {all : List (List R3)} (h : LInv ks cs t all) (x : R3) : 0 < sumOf t x ↔ ∃ l ∈ all, x ∈ l := by
  have hc := h.cnt x
  constructor
  · intro q
    refine Classical.byContradiction fun hno => ?_
    have h0 : ∀ (A : List (List R3)), (∀ m ∈ A, x ∉ m) → (A.map (List.count x)).sum = 0 := by
      intro A
      induction A with
      | nil => intro _; rfl
      | cons m A ih =>
        intro q
        rw [List.map_cons, List.sum_cons, ih (fun m hm => q m (by simp [hm])), List.count_eq_zero.2 (q m (by simp))]
    rw [h0 all (fun m hm hx => hno ⟨m, hm, hx⟩)] at hc
    omega
  · rintro ⟨l, hl, hx⟩
    obtain ⟨A, B, rfl⟩ := List.append_of_mem hl
    rw [List.map_append, List.map_cons, List.sum_append, List.sum_cons] at hc
    have := List.count_pos_iff.2 hx
    omega
end Pv
end Go.Proofs.YtcoofnhdbejnpabGreatDoor

