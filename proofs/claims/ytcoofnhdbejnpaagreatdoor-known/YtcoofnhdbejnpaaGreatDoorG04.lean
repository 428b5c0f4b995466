/- Plain functions: all the lines of a table, as package lines lays them: each is the document's line of its part. -/
import Derived.Test.YtcoofnhdbejnpaaGreatDoorG03
namespace Go.Proofs.YtcoofnhdbejnpaaGreatDoor
namespace Pv
open Pq Pr
/-- is the line the part of r -/
def isPart (cs : List Nat) (l : List R3) (r : R3) : Bool := match l with | [] => false | x :: _ => matesC cs x r
/-- which line is the part of r: how many there are, if none is -/
def partAt (cs : List Nat) (r : R3) : List (List R3) → Nat
  | [] => 0
  | l :: all => if isPart cs l r = true then 0 else partAt cs r all + 1
theorem partAt_le (cs : List Nat) (r : R3) : ∀ all : List (List R3), partAt cs r all ≤ all.length
  | [] => Nat.le_refl _
  | l :: all => by
    have := partAt_le cs r all
    rw [partAt]; split
    · omega
    · simp; omega
theorem partAt_front (cs : List Nat) (r : R3) : ∀ (all : List (List R3)) (j : Nat) (hj : j < all.length), j < partAt cs r all → isPart cs all[j] r = false
  | [], j, hj, _ => by simp at hj
  | l :: all, j, hj, h => by
    rw [partAt] at h
    split at h
    · omega
    · rename_i hc
      match j with
      | 0 => simpa using hc
      | j + 1 => exact partAt_front cs r all j (by simpa using hj) (by omega)
theorem partAt_stop (cs : List Nat) (r : R3) : ∀ (all : List (List R3)) (h : partAt cs r all < all.length), isPart cs all[partAt cs r all] r = true
  | [], h => by simp at h
  | l :: all, h => by
    cases hc : isPart cs l r with
    | false =>
      have e : partAt cs r (l :: all) = partAt cs r all + 1 := by rw [partAt, if_neg (by simp [hc])]
      have h2 : partAt cs r all < all.length := by rw [e] at h; simpa using h
      have := partAt_stop cs r all h2
      have e2 : (l :: all)[partAt cs r (l :: all)] = all[partAt cs r all] := by simp [e]
      rw [e2]; exact this
    | true =>
      have e : partAt cs r (l :: all) = 0 := by rw [partAt, if_pos hc]
      have e2 : (l :: all)[partAt cs r (l :: all)] = l := by simp [e]
      rw [e2]; exact hc
theorem partAt_is (cs : List Nat) (r : R3) (all : List (List R3)) (k : Nat) (hk : k ≤ all.length) (h1 : ∀ j (hj : j < all.length), j < k → isPart cs all[j] r = false) (h2 : ∀ h : k < all.length, isPart cs all[k] r = true) : partAt cs r all = k := by
  rcases Nat.lt_trichotomy (partAt cs r all) k with h | h | h
  · have hs := partAt_stop cs r all (by omega)
    rw [h1 _ (by omega) h] at hs; cases hs
  · exact h
  · have hf := partAt_front cs r all k (by have := partAt_le cs r all; omega) h
    rw [h2 (by have := partAt_le cs r all; omega)] at hf; cases hf
/-- the lines, with room for the part of r -/
def roomP (cs : List Nat) (r : R3) (all : List (List R3)) : List (List R3) := if partAt cs r all = all.length then all ++ [[]] else all
def layN (ks : List (Nat × Bool)) (cs : List Nat) (all : List (List R3)) (r : R3) (n : Nat) : List (List R3) := (roomP cs r all).modify (partAt cs r all) (insN ks r n)
def linesP (ks : List (Nat × Bool)) (cs : List Nat) (t : List Chg) : List (List R3) := t.foldl (fun all c => layN ks cs all c.1 c.2.toNat) []
theorem linesP_snoc (ks : List (Nat × Bool)) (cs : List Nat) (t : List Chg) (c : Chg) : linesP ks cs (t ++ [c]) = layN ks cs (linesP ks cs t) c.1 c.2.toNat := by simp [linesP]
theorem linesP_take (ks : List (Nat × Bool)) (cs : List Nat) (t : List Chg) (k : Nat) (h : k < t.length) : linesP ks cs (t.take (k + 1)) = layN ks cs (linesP ks cs (t.take k)) t[k].1 t[k].2.toNat := by
  rw [List.take_succ_eq_append_getElem h, linesP_snoc]
/-- what holds of the lines of these changes -/
structure LInv (ks : List (Nat × Bool)) (cs : List Nat) (t : List Chg) (all : List (List R3)) : Prop where
  ne : ∀ l ∈ all, l ≠ []
  srt : ∀ l ∈ all, SrtL ks l
  one : ∀ l ∈ all, ∀ x ∈ l, ∀ y ∈ l, matesC cs x y = true
  dis : all.Pairwise (fun l m => ∀ x ∈ l, ∀ y ∈ m, matesC cs x y = false)
  cnt : ∀ x, (all.map (List.count x)).sum = (sumOf t x).toNat
theorem LInv.nil (ks : List (Nat × Bool)) (cs : List Nat) : LInv ks cs [] [] :=
  ⟨fun _ h => (List.not_mem_nil h).elim, fun _ h => (List.not_mem_nil h).elim, fun _ h => (List.not_mem_nil h).elim, List.Pairwise.nil, fun _ => rfl⟩
theorem isPart_of {cs : List Nat} {l : List R3} (hne : l ≠ []) (hone : ∀ x ∈ l, ∀ y ∈ l, matesC cs x y = true) {x r : R3} (hx : x ∈ l) : isPart cs l r = matesC cs x r := by
  match l, hne with
  | a :: l, _ =>
    show matesC cs a r = matesC cs x r
    rw [Bool.eq_iff_iff]
    have := hone a (by simp) x hx
    exact ⟨fun h => mates_trans (mates_symm this) h, fun h => mates_trans this h⟩
theorem modify_split {α : Type} (A : List α) (x : α) (B : List α) (f : α → α) : (A ++ x :: B).modify A.length f = A ++ f x :: B := by
  rw [List.modify_eq_take_cons_drop (by simp)]
  simp
theorem LInv.step {ks : List (Nat × Bool)} {cs : List Nat} {t : List Chg} {all : List (List R3)} (h : LInv ks cs t all) (hp : ∀ c ∈ t, 0 ≤ c.2) (c : Chg) (hc : 1 ≤ c.2) : LInv ks cs (t ++ [c]) (layN ks cs all c.1 c.2.toNat) := by
  have hnn : 0 ≤ sumOf t c.1 := by
    have : ∀ (t : List Chg), (∀ c ∈ t, 0 ≤ c.2) → 0 ≤ sumOf t c.1 := by
      intro t
      induction t with
      | nil => intro _; simp [sumOf]
      | cons d t ih =>
        intro h
        have i := ih (fun d hd => h d (List.mem_cons_of_mem _ hd))
        have hd := h d (List.mem_cons_self ..)
        rw [sumOf]
        split <;> omega
    exact this t hp
  have hsum : ∀ x, (sumOf (t ++ [c]) x).toNat = (sumOf t x).toNat + (if c.1 = x then c.2.toNat else 0) := fun x => by
    rw [sumOf_app]
    have e : sumOf [c] x = if c.1 = x then c.2 else 0 := by simp [sumOf]
    rw [e]
    by_cases q : c.1 = x
    · subst q; rw [if_pos rfl, if_pos rfl]; omega
    · rw [if_neg q, if_neg q]; simp
  have hrep : ∀ x (l : List R3), (insN ks c.1 c.2.toNat l).count x = l.count x + (if c.1 = x then c.2.toNat else 0) := fun x l => by
    rw [(insN_perm ks c.1 _ l).count_eq x, List.count_append, List.count_replicate]
    by_cases q : c.1 = x
    · simp [q]; omega
    · simp [q]
  have hin : ∀ x (l : List R3), x ∈ insN ks c.1 c.2.toNat l ↔ x = c.1 ∨ x ∈ l := fun x l => by
    rw [(insN_perm ks c.1 _ l).mem_iff, List.mem_append, List.mem_replicate]
    constructor
    · rintro (h | h)
      · exact .inl h.2
      · exact .inr h
    · rintro (h | h)
      · exact .inl ⟨by omega, h⟩
      · exact .inr h
  unfold layN roomP
  by_cases hlt : partAt cs c.1 all = all.length
  · rw [if_pos hlt, hlt, modify_split]
    have hno : ∀ l ∈ all, ∀ x ∈ l, matesC cs x c.1 = false := fun l hl x hx => by
      obtain ⟨j, hj, rfl⟩ := List.getElem_of_mem hl
      have := partAt_front cs c.1 all j hj (by omega)
      rw [isPart_of (h.ne _ hl) (h.one _ hl) hx] at this
      exact this
    have hm : ∀ x, x ∈ insN ks c.1 c.2.toNat [] ↔ x = c.1 := fun x => by rw [hin]; simp
    refine ⟨fun l hl => ?_, fun l hl => ?_, fun l hl x hx y hy => ?_, ?_, fun x => ?_⟩
    · rcases List.mem_append.1 hl with hl | hl
      · exact h.ne l hl
      · rw [List.mem_singleton.1 hl]
        intro e
        have := (hm c.1).2 rfl
        rw [e] at this; simp at this
    · rcases List.mem_append.1 hl with hl | hl
      · exact h.srt l hl
      · rw [List.mem_singleton.1 hl]
        exact insN_srt List.Pairwise.nil _
    · rcases List.mem_append.1 hl with hl | hl
      · exact h.one l hl x hx y hy
      · rw [List.mem_singleton.1 hl] at hx hy
        rw [(hm x).1 hx, (hm y).1 hy]; exact mates_refl cs _
    · rw [List.pairwise_append]
      refine ⟨h.dis, List.pairwise_singleton _ _, fun l hl m hm2 x hx y hy => ?_⟩
      rw [List.mem_singleton.1 hm2] at hy
      rw [(hm y).1 hy]
      exact hno l hl x hx
    · rw [List.map_append, List.sum_append, h.cnt, hsum, List.map_singleton, hrep]
      simp
  · rw [if_neg hlt]
    have hl2 : partAt cs c.1 all < all.length := by have := partAt_le cs c.1 all; omega
    have hst := partAt_stop cs c.1 all hl2
    have hsp : all = all.take (partAt cs c.1 all) ++ all[partAt cs c.1 all] :: all.drop (partAt cs c.1 all + 1) := by
      rw [← List.drop_eq_getElem_cons hl2, List.take_append_drop]
    have hA : (all.take (partAt cs c.1 all)).length = partAt cs c.1 all := by rw [List.length_take]; omega
    generalize hp1 : all.take (partAt cs c.1 all) = A at *
    generalize hp2 : all[partAt cs c.1 all] = L at *
    generalize hp3 : all.drop (partAt cs c.1 all + 1) = B at *
    have hmod : all.modify (partAt cs c.1 all) (insN ks c.1 c.2.toNat) = A ++ insN ks c.1 c.2.toNat L :: B := by
      conv => lhs; rw [← hA]
      rw [hsp, modify_split]
    rw [hmod]
    clear hmod hp1 hp2 hp3 hA hl2 hlt
    subst hsp
    have hL : L ∈ A ++ L :: B := by simp
    obtain ⟨a, ha⟩ : ∃ a, a ∈ L := List.exists_mem_of_ne_nil _ (h.ne L hL)
    have hac : matesC cs a c.1 = true := by rw [← isPart_of (h.ne L hL) (h.one L hL) ha]; exact hst
    have hmL : ∀ x ∈ L, matesC cs x c.1 = true := fun x hx => mates_trans (h.one L hL x hx a ha) hac
    have hd := h.dis
    rw [List.pairwise_append, List.pairwise_cons] at hd
    have hno : ∀ l, (l ∈ A ∨ l ∈ B) → ∀ x ∈ l, matesC cs x c.1 = false := fun l hl x hx => by
      rw [Bool.eq_false_iff]
      intro q
      have q2 : matesC cs x a = true := mates_trans q (mates_symm hac)
      rcases hl with hl | hl
      · rw [hd.2.2 l hl L (by simp) x hx a ha] at q2; cases q2
      · have := hd.2.1.1 l hl a ha x hx
        rw [mates_symm q2] at this; cases this
    have hsy : ∀ {x y : R3}, matesC cs x y = false → matesC cs y x = false := fun {x y} q => by
      rw [Bool.eq_false_iff] at q ⊢
      exact fun q2 => q (mates_symm q2)
    have hcs : ∀ l, l ∈ A ++ insN ks c.1 c.2.toNat L :: B → (l ∈ A ++ L :: B ∨ l = insN ks c.1 c.2.toNat L) := fun l hl => by
      rcases List.mem_append.1 hl with hl | hl
      · exact .inl (List.mem_append_left _ hl)
      · rcases List.mem_cons.1 hl with hl | hl
        · exact .inr hl
        · exact .inl (List.mem_append_right _ (List.mem_cons_of_mem _ hl))
    refine ⟨fun l hl => ?_, fun l hl => ?_, fun l hl x hx y hy => ?_, ?_, fun x => ?_⟩
    · rcases hcs l hl with hl | rfl
      · exact h.ne l hl
      · intro e
        have := (hin c.1 L).2 (.inl rfl)
        rw [e] at this; simp at this
    · rcases hcs l hl with hl | rfl
      · exact h.srt l hl
      · exact insN_srt (h.srt L hL) _
    · rcases hcs l hl with hl | rfl
      · exact h.one l hl x hx y hy
      · rw [hin] at hx hy
        have key : ∀ z, (z = c.1 ∨ z ∈ L) → matesC cs z c.1 = true := by
          rintro z (rfl | hz)
          · exact mates_refl cs _
          · exact hmL z hz
        exact mates_trans (key x hx) (mates_symm (key y hy))
    · rw [List.pairwise_append, List.pairwise_cons]
      refine ⟨hd.1, ⟨fun m hm x hx y hy => ?_, hd.2.1.2⟩, fun l hl m hm x hx y hy => ?_⟩
      · rcases (hin x L).1 hx with rfl | hx
        · exact hsy (hno m (.inr hm) y hy)
        · exact hd.2.1.1 m hm x hx y hy
      · rcases List.mem_cons.1 hm with rfl | hm
        · rcases (hin y L).1 hy with rfl | hy
          · exact hno l (.inl hl) x hx
          · exact hd.2.2 l hl L (by simp) x hx y hy
        · exact hd.2.2 l hl m (by simp [hm]) x hx y hy
    · have hc0 := h.cnt x
      simp only [List.map_append, List.map_cons, List.sum_append, List.sum_cons] at hc0 ⊢
      rw [hsum, hrep, ← hc0]
      omega
theorem LInv.lines (ks : List (Nat × Bool)) (cs : List Nat) : ∀ (n : Nat) (t : List Chg), t.length = n → (∀ c ∈ t, 1 ≤ c.2) → LInv ks cs t (linesP ks cs t)
  | 0, t, h, _ => by
    obtain rfl := List.eq_nil_of_length_eq_zero h
    exact LInv.nil ks cs
  | n + 1, t, h, hp => by
    have e : t = t.take n ++ [t[n]] := by
      have := List.take_succ_eq_append_getElem (l := t) (i := n) (by omega)
      rw [← this, List.take_of_length_le (by omega)]
    have hin : ∀ c ∈ t.take n, c ∈ t := fun c hc => List.mem_of_mem_take hc
    have ih := LInv.lines ks cs n (t.take n) (by rw [List.length_take]; omega) (fun c hc => hp c (hin c hc))
    have := ih.step (fun c hc => by have := hp c (hin c hc); omega) t[n] (hp _ (List.getElem_mem _))
    rw [← linesP_snoc, ← e] at this
    exact this
/-- a line that holds a row is the document's line of its part -/
theorem LInv.line {ks : List (Nat × Bool)} {cs : List Nat} {t : List Chg} {all : List (List R3)} (h : LInv ks cs t all) (ht : IsTable t) (hp : ∀ c ∈ t, 0 ≤ c.2) {l : List R3} (hl : l ∈ all) {x : R3} (hx : x ∈ l) : l = lineR ks cs t x := by
  refine srtL_eq (h.srt l hl) (lineR_srt ks ht x) (fun y => ?_)
  rw [lineR_count ks ht hp]
  by_cases hy : matesC cs y x = true
  · rw [if_pos hy, ← h.cnt y]
    obtain ⟨A, B, rfl⟩ := List.append_of_mem hl
    have hd := h.dis
    rw [List.pairwise_append, List.pairwise_cons] at hd
    have h0 : ∀ (A : List (List R3)), (∀ m ∈ A, y ∉ m) → (A.map (List.count y)).sum = 0 := by
      intro A
      induction A with
      | nil => intro _; rfl
      | cons m A ih =>
        intro q
        rw [List.map_cons, List.sum_cons, ih (fun m hm => q m (by simp [hm])), List.count_eq_zero.2 (q m (by simp))]
    rw [List.map_append, List.map_cons, List.sum_append, List.sum_cons, h0 A, h0 B]
    · omega
    · intro m hm q
      have := hd.2.1.1 m hm x hx y q
      rw [mates_symm hy] at this; cases this
    · intro m hm q
      have := hd.2.2 m hm l (by simp) y q x hx
      rw [hy] at this; cases this
  · rw [if_neg hy, List.count_eq_zero]
    exact fun q => hy (h.one l hl y q x hx)
theorem sum_pos_mem {t : List Chg} (hp : ∀ c ∈ t, 1 ≤ c.2) {c : Chg} (hc : c ∈ t) : 0 < sumOf t c.1 := by
  induction t with
  | nil => simp at hc
  | cons d t ih =>
    have h1 := hp d (by simp)
    have h2 := sumOf_nn (fun e he => hp e (List.mem_cons_of_mem _ he)) c.1
    rw [sumOf]
    rcases List.mem_cons.1 hc with rfl | hc
    · rw [if_pos rfl]; omega
    · have := ih (fun e he => hp e (List.mem_cons_of_mem _ he)) hc
      split <;> omega
/-- each row of the table stands in a line -/
theorem LInv.has {ks : List (Nat × Bool)} {cs : List Nat} {t : List Chg} {all : List (List R3)} (h : LInv ks cs t all) (x : R3) : 0 < sumOf t x ↔ ∃ l ∈ all, x ∈ l := by
  have hc := h.cnt x
  constructor
  · intro q
    refine Classical.byContradiction fun hno => ?_
    have h0 : ∀ (A : List (List R3)), (∀ m ∈ A, x ∉ m) → (A.map (List.count x)).sum = 0 := by
      intro A
      induction A with
      | nil => intro _; rfl
      | cons m A ih =>
        intro q
        rw [List.map_cons, List.sum_cons, ih (fun m hm => q m (by simp [hm])), List.count_eq_zero.2 (q m (by simp))]
    rw [h0 all (fun m hm hx => hno ⟨m, hm, hx⟩)] at hc
    omega
  · rintro ⟨l, hl, hx⟩
    obtain ⟨A, B, rfl⟩ := List.append_of_mem hl
    rw [List.map_append, List.map_cons, List.sum_append, List.sum_cons] at hc
    have := List.count_pos_iff.2 hx
    omega
end Pv
end Go.Proofs.YtcoofnhdbejnpaaGreatDoor

