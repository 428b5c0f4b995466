/- Package outs: lists of out rows in memory, with the slices of their values; one out row more, plain. -/
import Derived.Test.YtcoofnhdbejnpaaGreatDoorG31
import Derived.Test.YtcoofnhdbejnpaaGreatDoorG37
namespace Go.Proofs.YtcoofnhdbejnpaaGreatDoor
open Go.RowKit
namespace Pv
/-- how many of the front stand ahead of an out row -/
def plO (o : Key) : List Out → Nat
  | [] => 0
  | d :: l => if lowO d (o.1, o.2, 0) = true then plO o l + 1 else 0
theorem plO_le (o : Key) : ∀ l : List Out, plO o l ≤ l.length
  | [] => Nat.le_refl _
  | d :: l => by
    have := plO_le o l
    rw [plO]; split
    · simp; omega
    · omega
theorem plO_front (o : Key) : ∀ (l : List Out) (j : Nat) (hj : j < l.length), j < plO o l → lowO l[j] (o.1, o.2, 0) = true
  | [], j, hj, _ => by simp at hj
  | c :: l, j, hj, h => by
    rw [plO] at h
    split at h
    · rename_i hc
      match j with
      | 0 => exact hc
      | j + 1 => exact plO_front o l j (by simpa using hj) (by omega)
    · omega
theorem plO_stop (o : Key) : ∀ (l : List Out) (h : plO o l < l.length), lowO l[plO o l] (o.1, o.2, 0) = false
  | [], h => by simp at h
  | c :: l, h => by
    cases hc : lowO c (o.1, o.2, 0) with
    | true =>
      have e : plO o (c :: l) = plO o l + 1 := by rw [plO, if_pos hc]
      have h2 : plO o l < l.length := by rw [e] at h; simpa using h
      have := plO_stop o l h2
      have e2 : (c :: l)[plO o (c :: l)] = l[plO o l] := by simp [e]
      rw [e2]; exact this
    | false =>
      have e : plO o (c :: l) = 0 := by rw [plO, if_neg (by simp [hc])]
      have e2 : (c :: l)[plO o (c :: l)] = c := by simp [e]
      rw [e2]; exact hc
theorem plO_is (o : Key) (l : List Out) (k : Nat) (hk : k ≤ l.length) (h1 : ∀ j (hj : j < l.length), j < k → lowO l[j] (o.1, o.2, 0) = true) (h2 : ∀ h : k < l.length, lowO l[k] (o.1, o.2, 0) = false) : plO o l = k := by
  rcases Nat.lt_trichotomy (plO o l) k with h | h | h
  · have hs := plO_stop o l (by omega)
    rw [h1 _ (by omega) h] at hs; cases hs
  · exact h
  · have hf := plO_front o l k (by have := plO_le o l; omega) h
    rw [h2 (by have := plO_le o l; omega)] at hf; cases hf
theorem addO_at (o : Key) (n : Int) : ∀ l : List Out, addO o n l = if h : plO o l < l.length ∧ (l[plO o l]?.map keyO) = some o then l.set (plO o l) ((l[plO o l]'h.1).1, (l[plO o l]'h.1).2.1, (l[plO o l]'h.1).2.2 + n) else l.take (plO o l) ++ (o.1, o.2, n) :: l.drop (plO o l)
  | [] => by simp [addO, plO]
  | d :: l => by
    have ih := addO_at o n l
    have hl0 : lowO d (o.1, o.2, n) = lowO d (o.1, o.2, 0) := lowO_key rfl rfl
    cases hd : lowO d (o.1, o.2, 0) with
    | true =>
      have e : plO o (d :: l) = plO o l + 1 := by rw [plO, if_pos hd]
      rw [addO, hl0, if_pos hd, ih]
      by_cases h : plO o l < l.length ∧ (l[plO o l]?.map keyO) = some o
      · rw [dif_pos h, dif_pos (by rw [e]; simpa using h)]
        simp [e]
      · rw [dif_neg h, dif_neg (by rw [e]; simpa using h)]
        simp [e]
    | false =>
      have e : plO o (d :: l) = 0 := by rw [plO, if_neg (by simp [hd])]
      rw [addO, hl0, if_neg (by simp [hd])]
      by_cases hr : keyO d = o
      · rw [if_pos hr, dif_pos (by rw [e]; simp [hr])]
        simp [e]
      · rw [if_neg hr, dif_neg (by rw [e]; simp [hr])]
        simp [e]
theorem addO_same {o : Key} {n : Int} {l : List Out} (h : plO o l < l.length) (e : keyO l[plO o l] = o) : addO o n l = l.set (plO o l) (l[plO o l].1, l[plO o l].2.1, l[plO o l].2.2 + n) := by
  rw [addO_at, dif_pos ⟨h, by rw [List.getElem?_eq_getElem h]; simp [e]⟩]
theorem addO_new {o : Key} {n : Int} {l : List Out} (h : ∀ hl : plO o l < l.length, keyO l[plO o l] ≠ o) : addO o n l = l.take (plO o l) ++ (o.1, o.2, n) :: l.drop (plO o l) := by
  rw [addO_at, dif_neg]
  rintro ⟨hl, e⟩
  rw [List.getElem?_eq_getElem hl] at e
  exact h hl (by simpa using e)
end Pv
abbrev POut := Pv.Out × Value
/-- out rows with the slices of their values, cell by cell -/
def pouts (P : List POut) : List Value := P.flatMap (fun x => oc x.1 x.2)
theorem pouts_len (P : List POut) : (pouts P).length = P.length * 5 := by
  induction P with
  | nil => rfl
  | cons v vs ih => simp only [pouts, List.flatMap_cons, List.length_append] at ih ⊢; rw [ih]; simp [oc]; omega
theorem pouts_snoc (P : List POut) (x : POut) : pouts (P ++ [x]) = pouts P ++ oc x.1 x.2 := by simp [pouts]
theorem pouts_get : ∀ (P : List POut) (n : Nat) (h : n < P.length) (i : Nat), i < 5 → (pouts P)[n * 5 + i]? = (oc P[n].1 P[n].2)[i]?
  | [], n, h, _, _ => by simp at h
  | c :: l, 0, _, i, hi => by
    have e : pouts (c :: l) = oc c.1 c.2 ++ pouts l := by simp [pouts]
    have hl : (oc c.1 c.2).length = 5 := rfl
    rw [e, List.getElem?_append_left (by omega)]
    simp
  | c :: l, n + 1, h, i, hi => by
    have ih := pouts_get l n (by simpa using h) i hi
    have e : pouts (c :: l) = oc c.1 c.2 ++ pouts l := by simp [pouts]
    have hl : (oc c.1 c.2).length = 5 := rfl
    rw [e, List.getElem?_append_right (by omega), hl, show (n + 1) * 5 + i - 5 = n * 5 + i by omega]
    exact ih
theorem pouts_set : ∀ (P : List POut) (j : Nat) (y : POut), j < P.length → pouts (P.set j y) = (((((pouts P).set (j * 5) (.int .i64 y.1.1.1)).set (j * 5 + 1) (.int .i64 y.1.1.2.1)).set (j * 5 + 2) (.int .i64 y.1.1.2.2)).set (j * 5 + 3) y.2).set (j * 5 + 4) (.int .i64 y.1.2.2)
  | [], j, _, h => by simp at h
  | d :: l, 0, y, _ => by simp [pouts, oc]
  | d :: l, j + 1, y, h => by
    have ih := pouts_set l j y (by simpa using h)
    have e : ∀ m : List POut, pouts (d :: m) = oc d.1 d.2 ++ pouts m := fun m => by simp [pouts]
    have hl : (oc d.1 d.2).length = 5 := rfl
    rw [List.set_cons_succ, e, e, ih, List.set_append_right _ _ (by omega), List.set_append_right _ _ (by omega), List.set_append_right _ _ (by omega), List.set_append_right _ _ (by omega), List.set_append_right _ _ (by omega), hl, show (j + 1) * 5 - 5 = j * 5 by omega, show (j + 1) * 5 + 1 - 5 = j * 5 + 1 by omega, show (j + 1) * 5 + 2 - 5 = j * 5 + 2 by omega, show (j + 1) * 5 + 3 - 5 = j * 5 + 3 by omega, show (j + 1) * 5 + 4 - 5 = j * 5 + 4 by omega]
/-- a list of out rows that the call has made; its values can be read -/
structure OwnP (w : World) (B : Nat) (v : Value) (P : List POut) : Prop where
  row : w.ownsRow B 55 5 v P.length (pouts P)
  rd : ∀ x ∈ P, RdV w x.2 x.1.2.1
theorem OwnP.below {w w' : World} {B : Nat} {v : Value} {P : List POut} (h : OwnP w B v P) (hb : Below w.heap.size w w') : OwnP w' B v P := ⟨own_below h.row hb, fun x hx => (h.rd x hx).below hb⟩
theorem OwnP.nil (w : World) (B : Nat) : OwnP w B (.slice none 0 0) [] := ⟨World.ownsRow_nil _ _ _ _, fun x h => by simp at h⟩
theorem zip_maps : ∀ P : List POut, (P.map (·.1)).zip (P.map (·.2)) = P
  | [] => rfl
  | x :: P => by simp [zip_maps P]
theorem OwnP.toO {w : World} {B : Nat} {v : Value} {P : List POut} (h : OwnP w B v P) : OwnO w B v (P.map (·.1)) := by
  refine ⟨P.map (·.2), ⟨by simp, fun j h1 h2 => ?_⟩, ?_⟩
  · simp only [List.getElem_map]
    exact h.rd _ (List.getElem_mem (by simpa using h1))
  · unfold routs
    rw [zip_maps, List.length_map]
    exact h.row
theorem OwnP.cell {w : World} {B g n cap : Nat} {P : List POut} (h : OwnP w B (.slice (some ⟨g, 0, none⟩) n cap) P) (j : Nat) (hj : j < P.length) : w.cell? ⟨g, j * 5, none⟩ = some (.int .i64 P[j].1.1.1) ∧ w.cell? ⟨g, j * 5 + 1, none⟩ = some (.int .i64 P[j].1.1.2.1) ∧ w.cell? ⟨g, j * 5 + 2, none⟩ = some (.int .i64 P[j].1.1.2.2) ∧ w.cell? ⟨g, j * 5 + 3, none⟩ = some P[j].2 ∧ w.cell? ⟨g, j * 5 + 4, none⟩ = some (.int .i64 P[j].1.2.2) := by
  have hrd := RdG.ofOwn h.row
  have c0 := RdG.cell hrd _ _ ((pouts_get P j hj 0 (by omega)).trans rfl)
  have c1 := RdG.cell hrd _ _ ((pouts_get P j hj 1 (by omega)).trans rfl)
  have c2 := RdG.cell hrd _ _ ((pouts_get P j hj 2 (by omega)).trans rfl)
  have c3 := RdG.cell hrd _ _ ((pouts_get P j hj 3 (by omega)).trans rfl)
  have c4 := RdG.cell hrd _ _ ((pouts_get P j hj 4 (by omega)).trans rfl)
  rw [Nat.zero_add] at c0 c1 c2 c3 c4
  exact ⟨c0, c1, c2, c3, c4⟩
theorem OwnP.form {w : World} {B : Nat} {v : Value} {P : List POut} (h : OwnP w B v P) : ∃ x c, v = .slice x P.length c := by
  rcases own_form h.row with ⟨h, h2⟩ | ⟨g, c, h⟩
  · exact ⟨none, 0, by rw [h, h2]⟩
  · exact ⟨_, c, h⟩
theorem OwnP.form1 {w : World} {B : Nat} {v : Value} {P : List POut} (h : OwnP w B v P) (h0 : 0 < P.length) : ∃ g c, v = .slice (some ⟨g, 0, none⟩) P.length c := by
  rcases own_form h.row with ⟨_, h2⟩ | h
  · omega
  · exact h
theorem own_set5P {w : World} {B g cap n : Nat} {P : List POut} (h : w.ownsRow B 55 5 (.slice (some ⟨g, 0, none⟩) n cap) n (pouts P)) (j : Nat) (hj : j < P.length) (y : POut) :
    (((((w.setCell ⟨g, j * 5, none⟩ (.int .i64 y.1.1.1)).setCell ⟨g, j * 5 + 1, none⟩ (.int .i64 y.1.1.2.1)).setCell ⟨g, j * 5 + 2, none⟩ (.int .i64 y.1.1.2.2)).setCell ⟨g, j * 5 + 3, none⟩ y.2).setCell ⟨g, j * 5 + 4, none⟩ (.int .i64 y.1.2.2)).ownsRow B 55 5 (.slice (some ⟨g, 0, none⟩) n cap) n (pouts (P.set j y)) := by
  have hl := h.1
  rw [pouts_len] at hl
  refine ⟨by rw [pouts_len, List.length_set]; exact hl, ?_⟩
  rcases h.2 with ⟨h1, _⟩ | ⟨g', cap', cur, h1, h2, h3, h4, h5, h6, h7⟩
  · cases h1
  · cases h1
    refine .inr ⟨g, cap, ((((cur.setIfInBounds (j * 5) (.int .i64 y.1.1.1)).setIfInBounds (j * 5 + 1) (.int .i64 y.1.1.2.1)).setIfInBounds (j * 5 + 2) (.int .i64 y.1.1.2.2)).setIfInBounds (j * 5 + 3) y.2).setIfInBounds (j * 5 + 4) (.int .i64 y.1.2.2), rfl, h2, ?_, h4, h5, by simpa using h6, ?_⟩
    · simp [World.setCell, Array.getElem?_modify, h3]
    · rw [pouts_set P j y hj, ← h7]
      simp only [Array.toList_setIfInBounds]
      rw [List.take_set, List.take_set, List.take_set, List.take_set, List.take_set]
theorem pouts_set4 (P : List POut) (j : Nat) (hj : j < P.length) (m : Int) : pouts (P.set j ((P[j].1.1, P[j].1.2.1, m), P[j].2)) = (pouts P).set (j * 5 + 4) (.int .i64 m) := by
  have h0 := pouts_get P j hj 0 (by omega)
  have h1 := pouts_get P j hj 1 (by omega)
  have h2 := pouts_get P j hj 2 (by omega)
  have h3 := pouts_get P j hj 3 (by omega)
  simp only [Nat.add_zero] at h0
  rw [pouts_set P j _ hj]
  show (((((pouts P).set (j * 5) (.int .i64 P[j].1.1.1)).set (j * 5 + 1) (.int .i64 P[j].1.1.2.1)).set (j * 5 + 2) (.int .i64 P[j].1.1.2.2)).set (j * 5 + 3) P[j].2).set (j * 5 + 4) (.int .i64 m) = _
  rw [set_same (h0.trans rfl), set_same (h1.trans rfl), set_same (h2.trans rfl), set_same (h3.trans rfl)]
theorem RdV.set_out {w : World} {s : Value} {l : List Pv.Val} (h : RdV w s l) {g j : Nat} {x : Value} (hg : ∃ cur fz, w.heap[g]? = some (.cells cur 55 fz)) : RdV (w.setCell ⟨g, j, none⟩ x) s l := by
  refine RdG.kept h (grown_set w g j x) (fun k hk => ?_)
  cases hk
  obtain ⟨cur, fz, e⟩ := hg
  exact ⟨cur, _, fz, e, by decide⟩
theorem out_set {w : World} {g j : Nat} {x : Value} (hg : ∃ cur fz, w.heap[g]? = some (.cells cur 55 fz)) : ∃ cur fz, (w.setCell ⟨g, j, none⟩ x).heap[g]? = some (.cells cur 55 fz) := by
  obtain ⟨cur, fz, e⟩ := hg
  exact ⟨cur.setIfInBounds j x, fz, by simp [World.setCell, Array.getElem?_modify, e]⟩
/-- an element has turned -/
theorem OwnP.set5 {w : World} {B g cap n : Nat} {P : List POut} (h : OwnP w B (.slice (some ⟨g, 0, none⟩) n cap) P) (hn : n = P.length) (j : Nat) (hj : j < P.length) (y : POut) (hy : RdV w y.2 y.1.2.1) :
    OwnP (((((w.setCell ⟨g, j * 5, none⟩ (.int .i64 y.1.1.1)).setCell ⟨g, j * 5 + 1, none⟩ (.int .i64 y.1.1.2.1)).setCell ⟨g, j * 5 + 2, none⟩ (.int .i64 y.1.1.2.2)).setCell ⟨g, j * 5 + 3, none⟩ y.2).setCell ⟨g, j * 5 + 4, none⟩ (.int .i64 y.1.2.2)) B (.slice (some ⟨g, 0, none⟩) n cap) (P.set j y) := by
  subst hn
  have ht := own_type h.row (k := g) rfl
  have hr : ∀ s l, RdV w s l → RdV (((((w.setCell ⟨g, j * 5, none⟩ (.int .i64 y.1.1.1)).setCell ⟨g, j * 5 + 1, none⟩ (.int .i64 y.1.1.2.1)).setCell ⟨g, j * 5 + 2, none⟩ (.int .i64 y.1.1.2.2)).setCell ⟨g, j * 5 + 3, none⟩ y.2).setCell ⟨g, j * 5 + 4, none⟩ (.int .i64 y.1.2.2)) s l := fun s l hs =>
    ((((hs.set_out ht).set_out (out_set ht)).set_out (out_set (out_set ht))).set_out (out_set (out_set (out_set ht)))).set_out (out_set (out_set (out_set (out_set ht))))
  refine ⟨by rw [List.length_set]; exact own_set5P h.row j hj y, fun x hx => ?_⟩
  rcases List.mem_or_eq_of_mem_set hx with q | q
  · exact hr _ _ (h.rd x q)
  · rw [q]; exact hr _ _ hy
/-- a number has turned -/
theorem OwnP.set4 {w : World} {B g cap n : Nat} {P : List POut} (h : OwnP w B (.slice (some ⟨g, 0, none⟩) n cap) P) (hn : n = P.length) (j : Nat) (hj : j < P.length) (m : Int) : OwnP (w.setCell ⟨g, j * 5 + 4, none⟩ (.int .i64 m)) B (.slice (some ⟨g, 0, none⟩) n cap) (P.set j ((P[j].1.1, P[j].1.2.1, m), P[j].2)) := by
  subst hn
  have ht := own_type h.row (k := g) rfl
  refine ⟨?_, fun x hx => ?_⟩
  · rw [List.length_set, pouts_set4 P j hj m]
    exact (World.ownsRow.stored h.row (j * 5 + 4) _).1
  · rcases List.mem_or_eq_of_mem_set hx with q | q
    · exact (h.rd x q).set_out ht
    · rw [q]; exact (h.rd _ (List.getElem_mem hj)).set_out ht
end Go.Proofs.YtcoofnhdbejnpaaGreatDoor

