/- Plain functions: out rows added up: what package outs and package lines tell is the document's view. -/
import Derived.Test.YtcoofnhdbejnpaaGreatDoorG04
namespace Go.Proofs.YtcoofnhdbejnpaaGreatDoor
namespace Pv
open Pq Pr
/-- rows as copies -/
def cp (l : List R3) : List Cpy := l.map (fun r => (r, 0))
def valR (ks : List (Nat × Bool)) (l : List R3) (f : Fn) (i : Nat) : Val := valueF ks (cp l) f i
theorem groups_map (ks : List (Nat × Bool)) (g : Cpy → Cpy) (hg : ∀ c, (g c).1 = c.1) : ∀ l : List Cpy, groupsF ks (l.map g) = groupsF ks l
  | [] => rfl
  | [_] => rfl
  | a :: b :: l => by
    have ih := groups_map ks g hg (b :: l)
    simp only [List.map_cons, groupsF] at ih ⊢
    rw [ih, hg, hg]
theorem inside_map (ks : List (Nat × Bool)) (f : Frame) (n : Int) (x : R3) (i : Int) (g : Cpy → Cpy) (hg : ∀ c, (g c).1 = c.1) : ∀ (l : List Cpy) (k : Int), insideF ks f n x i k (l.map g) = insideF ks f n x i k l
  | [], _ => rfl
  | a :: l, k => by
    have ih := inside_map ks f n x i g hg l (k + 1)
    simp only [List.map_cons, insideF]
    rw [ih, hg]
theorem value_map (ks : List (Nat × Bool)) (g : Cpy → Cpy) (hg : ∀ c, (g c).1 = c.1) (l : List Cpy) (f : Fn) (i : Nat) : valueF ks (l.map g) f i = valueF ks l f i := by
  unfold valueF
  rw [List.getElem?_map]
  cases h : l[i - 1]? with
  | none => rfl
  | some x =>
    simp only [Option.map_some, hg, List.length_map, ← List.map_take, groups_map ks g hg, inside_map ks f.frame _ _ _ g hg, List.countP_map, List.getElem?_map, Option.map_map, Function.comp_def]
theorem value_rows (ks : List (Nat × Bool)) (l : List Cpy) (f : Fn) (i : Nat) : valueF ks l f i = valR ks (l.map (·.1)) f i := by
  unfold valR cp
  rw [List.map_map]
  exact (value_map ks ((fun r => (r, 0)) ∘ fun x => x.1) (fun _ => rfl) l f i).symm
/-- the out rows of a line, from the position i on -/
def shownG (q : Qry) (l : List R3) : Nat → List R3 → List Out
  | _, [] => []
  | i, x :: m => if topOk q i then (x, q.fs.map (fun f => valR q.ks l f i), 1) :: shownG q l (i + 1) m else shownG q l (i + 1) m
def shownP (q : Qry) (l : List R3) : List Out := shownG q l 1 l
def outsP (q : Qry) (all : List (List R3)) : List Out := all.flatMap (shownP q)
abbrev Key := R3 × List Val
def keyO (o : Out) : Key := (o.1, o.2.1)
/-- the copies of an out row, of all these together -/
def sumO : List Out → Key → Int
  | [], _ => 0
  | o :: l, k => (if keyO o = k then o.2.2 else 0) + sumO l k
theorem sumO_app : ∀ (a b : List Out) (k : Key), sumO (a ++ b) k = sumO a k + sumO b k
  | [], b, k => by simp [sumO]
  | c :: a, b, k => by rw [List.cons_append, sumO, sumO, sumO_app a b k]; omega
theorem sumO_none {l : List Out} {k : Key} (h : ∀ o ∈ l, keyO o ≠ k) : sumO l k = 0 := by
  induction l with
  | nil => rfl
  | cons c l ih => rw [sumO, if_neg (h c (by simp)), ih (fun d hd => h d (by simp [hd]))]; rfl
theorem shownG_row (q : Qry) (l : List R3) : ∀ (m : List R3) (i : Nat), ∀ o ∈ shownG q l i m, o.1 ∈ m ∧ o.2.1.length = q.fs.length ∧ o.2.2 = 1
  | [], _, o, h => by simp [shownG] at h
  | x :: m, i, o, h => by
    rw [shownG] at h
    split at h
    · rcases List.mem_cons.1 h with rfl | h
      · exact ⟨by simp, by simp, rfl⟩
      · have := shownG_row q l m (i + 1) o h
        exact ⟨by simp [this.1], this.2⟩
    · have := shownG_row q l m (i + 1) o h
      exact ⟨by simp [this.1], this.2⟩
theorem shownG_len (q : Qry) (l : List R3) : ∀ (m : List R3) (i : Nat), (shownG q l i m).length ≤ m.length
  | [], _ => Nat.le_refl _
  | x :: m, i => by
    have := shownG_len q l m (i + 1)
    rw [shownG]
    split <;> simp <;> omega
/-- the document's out rows of one row, as they are counted -/
theorem counted_sum {l : List Out} (h1 : l.Pairwise (fun x y => ¬ (x.1 = y.1 ∧ x.2.1 = y.2.1))) (o : R3 × List Val) (n : Int) (k : Key) : sumO (countedF l o n) k = sumO l k + (if o = k then n else 0) := by
  unfold countedF
  split
  · rename_i hany
    induction l with
    | nil => simp at hany
    | cons d l ih =>
      rw [List.pairwise_cons] at h1
      rw [List.map_cons]
      by_cases hd : d.1 = o.1 ∧ d.2.1 = o.2
      · rw [if_pos hd]
        have hno : l.map (fun x => if x.1 = o.1 ∧ x.2.1 = o.2 then (x.1, x.2.1, x.2.2 + n) else x) = l := by
          conv => rhs; rw [← List.map_id l]
          refine List.map_congr_left (fun x hx => ?_)
          rw [if_neg (fun q => h1.1 x hx ⟨hd.1.trans q.1.symm, hd.2.trans q.2.symm⟩)]; rfl
        rw [hno, sumO, sumO]
        have e1 : keyO d = o := Prod.ext hd.1 hd.2
        have e2 : keyO (d.1, d.2.1, d.2.2 + n) = o := Prod.ext hd.1 hd.2
        rw [e1, e2]
        split <;> simp <;> omega
      · rw [if_neg hd, sumO, sumO, ih h1.2]
        · omega
        · rw [List.any_cons] at hany
          simp only [Bool.or_eq_true, Bool.and_eq_true, decide_eq_true_eq] at hany
          rcases hany with q | q
          · exact absurd q hd
          · exact q
  · rw [sumO_app, sumO, sumO]
    have : keyO (o.1, o.2, n) = o := rfl
    rw [this]
    show _ + ((if o = k then n else 0) + 0) = _
    omega
def rowL (q : Qry) (l : List Cpy) (r : R3) : Nat → List Cpy → List Out
  | _, [] => []
  | i, x :: m => if decide (x.1 = r) && topOk q i then (x.1, q.fs.map (fun f => valueF q.ks l f i), 1) :: rowL q l r (i + 1) m else rowL q l r (i + 1) m
theorem rowShown_sum {q : Qry} {l : List Cpy} {r : R3} {sign : Int} (hs : -1 ≤ sign) (hs2 : sign ≤ 1) (k : Key) : ∀ (c : List Cpy) (i : Nat) (out : List Out) (m : Nat), Fit m q.fs.length out → sumO (rowShown q l r sign i c out) k = sumO out k + sign * sumO (rowL q l r i c) k
  | [], _, _, _, _ => by simp [rowShown, rowL, sumO]
  | x :: c, i, out, m, h => by
    simp only [rowShown, rowL]
    split
    · rw [rowShown_sum hs hs2 k c (i + 1) _ (m + 1) (h.counted (by simp) hs hs2), counted_sum h.one, sumO]
      have : keyO (x.1, q.fs.map (fun f => valueF q.ks l f i), (1 : Int)) = (x.1, q.fs.map (fun f => valueF q.ks l f i)) := rfl
      rw [this, Int.mul_add]
      split <;> simp <;> omega
    · exact rowShown_sum hs hs2 k c (i + 1) out m h
theorem rowL_other {q : Qry} {l : List Cpy} {r : R3} {k : Key} (hk : k.1 ≠ r) : ∀ (c : List Cpy) (i : Nat), sumO (rowL q l r i c) k = 0
  | [], _ => rfl
  | x :: c, i => by
    simp only [rowL]
    split
    · rename_i h
      simp only [Bool.and_eq_true, decide_eq_true_eq] at h
      rw [sumO, rowL_other hk c (i + 1), if_neg]
      · rfl
      · intro e
        have := congrArg Prod.fst e
        exact hk (this.symm.trans h.1)
    · exact rowL_other hk c (i + 1)
theorem rowL_same {q : Qry} {l : List Cpy} {k : Key} : ∀ (c : List Cpy) (i : Nat), sumO (rowL q l k.1 i c) k = sumO (shownG q (l.map (·.1)) i (c.map (·.1))) k
  | [], _ => rfl
  | x :: c, i => by
    have ih := rowL_same (q := q) (l := l) (k := k) c (i + 1)
    simp only [rowL, List.map_cons, shownG]
    by_cases hx : x.1 = k.1
    · simp only [hx, decide_true, Bool.true_and]
      split
      · rw [sumO, sumO, ih]
        simp only [value_rows]
      · exact ih
    · have hne : ∀ vs : List Val, keyO (x.1, vs, (1 : Int)) ≠ k := fun vs e => hx (congrArg Prod.fst e)
      simp only [hx, decide_false, Bool.false_and]
      rw [if_neg (by simp), ih]
      split
      · rw [sumO, if_neg (hne _)]; omega
      · rfl
/-- the copies of an out row in the view of a table -/
def cntT (q : Qry) (t : List Chg) (k : Key) : Int := if 0 < sumOf t k.1 then sumO (shownP q (lineR q.ks q.cs t k.1)) k else 0
theorem shown_fit {q : Qry} {t : List Chg} {sign : Int} (hs : -1 ≤ sign) (hs2 : sign ≤ 1) : ∀ (s : List Chg) (out : List Out) (m : Nat), Fit m q.fs.length out → ∃ m', Fit m' q.fs.length (s.foldl (fun out c => rowShown q (lineF q.ks q.cs t c.1) c.1 sign 1 (lineF q.ks q.cs t c.1) out) out)
  | [], _, m, h => ⟨m, h⟩
  | c :: s, out, m, h => by
    rw [List.foldl_cons]
    exact shown_fit hs hs2 s _ _ (Fit.rowShown hs hs2 1 _ out m h)
theorem shown_sum {q : Qry} {t : List Chg} {sign : Int} (hs : -1 ≤ sign) (hs2 : sign ≤ 1) (k : Key) : ∀ (s : List Chg) (out : List Out) (m : Nat), Fit m q.fs.length out → s.Pairwise (fun x y => x.1 ≠ y.1) → sumO (s.foldl (fun out c => rowShown q (lineF q.ks q.cs t c.1) c.1 sign 1 (lineF q.ks q.cs t c.1) out) out) k = sumO out k + sign * (if k.1 ∈ s.map (·.1) then sumO (shownP q (lineR q.ks q.cs t k.1)) k else 0)
  | [], _, _, _, _ => by simp
  | c :: s, out, m, h, hp => by
    rw [List.pairwise_cons] at hp
    rw [List.foldl_cons, shown_sum hs hs2 k s _ _ (Fit.rowShown hs hs2 1 _ out m h) hp.2, rowShown_sum hs hs2 k _ 1 out m h]
    by_cases e : k.1 = c.1
    · have hni : k.1 ∉ s.map (·.1) := by
        intro q
        obtain ⟨d, hd, e2⟩ := List.mem_map.1 q
        exact hp.1 d hd (e.symm.trans e2.symm)
      rw [if_neg hni, if_pos (by simp [e]), ← e, rowL_same]
      simp [shownP, lineR]
    · rw [rowL_other e]
      have : (k.1 ∈ (c :: s).map (·.1)) ↔ k.1 ∈ s.map (·.1) := by simp [e]
      simp only [this]
      simp
theorem table_rows {t : List Chg} (ht : IsTable t) : t.Pairwise (fun x y => x.1 ≠ y.1) := ht.srt.imp (fun {x y} h e => by rw [e, lower_irr] at h; cases h)
theorem sum_pos_iff {t : List Chg} (hp : ∀ c ∈ t, 1 ≤ c.2) (x : R3) : 0 < sumOf t x ↔ x ∈ t.map (·.1) := by
  constructor
  · intro h
    refine Classical.byContradiction fun hno => ?_
    rw [sumOf_none (fun c hc e => hno (List.mem_map.2 ⟨c, hc, e⟩))] at h
    omega
  · intro h
    obtain ⟨c, hc, rfl⟩ := List.mem_map.1 h
    exact sum_pos_mem hp hc
theorem shownF_sum {q : Qry} {t : List Chg} (ht : TInv t) {sign : Int} (hs : -1 ≤ sign) (hs2 : sign ≤ 1) {out : List Out} {m : Nat} (h : Fit m q.fs.length out) (k : Key) : sumO (shownF q t sign out) k = sumO out k + sign * cntT q t k := by
  unfold shownF cntT
  rw [shown_sum hs hs2 k t out m h (table_rows ht.tab)]
  simp only [sum_pos_iff ht.pos]
theorem shownF_fit {q : Qry} {t : List Chg} {sign : Int} (hs : -1 ≤ sign) (hs2 : sign ≤ 1) {out : List Out} {m : Nat} (h : Fit m q.fs.length out) : ∃ m', Fit m' q.fs.length (shownF q t sign out) := shown_fit hs hs2 t out m h
/-- what the lines tell, added up, is what the table's view has -/
theorem outsP_sum {q : Qry} {t : List Chg} {all : List (List R3)} (ht : TInv t) (h : LInv q.ks q.cs t all) (k : Key) : sumO (outsP q all) k = cntT q t k := by
  have h0 : ∀ (A : List (List R3)), (∀ m ∈ A, k.1 ∉ m) → sumO (A.flatMap (shownP q)) k = 0 := by
    intro A hA
    refine sumO_none (fun o ho e => ?_)
    obtain ⟨l, hl, ho⟩ := List.mem_flatMap.1 ho
    exact hA l hl (by rw [← e]; exact (shownG_row q l l 1 o ho).1)
  unfold outsP cntT
  by_cases hx : 0 < sumOf t k.1
  · rw [if_pos hx]
    obtain ⟨l, hl, hkl⟩ := (h.has k.1).1 hx
    have hline := h.line ht.tab (fun c hc => by have := ht.pos c hc; omega) hl hkl
    obtain ⟨A, B, rfl⟩ := List.append_of_mem hl
    have hd := h.dis
    rw [List.pairwise_append, List.pairwise_cons] at hd
    rw [List.flatMap_append, List.flatMap_cons, sumO_app, sumO_app, h0 A, h0 B, ← hline]
    · omega
    · intro m hm q2
      have := hd.2.1.1 m hm k.1 hkl k.1 q2
      rw [mates_refl] at this; cases this
    · intro m hm q2
      have := hd.2.2 m hm l (by simp) k.1 q2 k.1 hkl
      rw [mates_refl] at this; cases this
  · rw [if_neg hx]
    exact h0 all (fun m hm q2 => hx ((h.has k.1).2 ⟨m, hm, q2⟩))
/-- n copies more of an out row, at its place -/
def addO (o : Key) (n : Int) : List Out → List Out
  | [] => [(o.1, o.2, n)]
  | d :: l => if lowO d (o.1, o.2, n) = true then d :: addO o n l else if keyO d = o then (d.1, d.2.1, d.2.2 + n) :: l else (o.1, o.2, n) :: d :: l
def SrtO (l : List Out) : Prop := l.Pairwise (fun x y => lowO x y = true)
theorem lowO_key {a b a' b' : Out} (h1 : keyO a = keyO a') (h2 : keyO b = keyO b') : lowO a b = lowO a' b' := by
  have e1 : a.1 = a'.1 := (Prod.ext_iff.1 h1).1
  have e2 : a.2.1 = a'.2.1 := (Prod.ext_iff.1 h1).2
  have e3 : b.1 = b'.1 := (Prod.ext_iff.1 h2).1
  have e4 : b.2.1 = b'.2.1 := (Prod.ext_iff.1 h2).2
  unfold lowO
  rw [e1, e2, e3, e4]
theorem lowO_irr (a : Out) : lowO a a = false := by
  rw [Bool.eq_false_iff]; intro h; rw [lowO_iff, lower_irr, valsLow_irr] at h; simp at h
theorem lowO_tr {a b c : Out} (h1 : lowO a b = true) (h2 : lowO b c = true) : lowO a c = true := by
  rw [lowO_iff] at h1 h2 ⊢
  rcases h1 with h1 | ⟨e1, h1⟩
  · rcases h2 with h2 | ⟨e2, h2⟩
    · exact .inl (lower_tr h1 h2)
    · exact .inl (by rw [← e2]; exact h1)
  · rcases h2 with h2 | ⟨e2, h2⟩
    · exact .inl (by rw [e1]; exact h2)
    · exact .inr ⟨e1.trans e2, valsLow_tr h1 h2⟩
theorem lowO_asym {a b : Out} (h : lowO a b = true) : lowO b a = false := by
  rw [Bool.eq_false_iff]; intro h2; have := lowO_tr h h2; rw [lowO_irr] at this; cases this
theorem lowO_tot {a b : Out} (hl : a.2.1.length = b.2.1.length) (h : keyO a ≠ keyO b) : lowO a b = true ∨ lowO b a = true := by
  rw [lowO_iff, lowO_iff]
  by_cases e : a.1 = b.1
  · have hv : a.2.1 ≠ b.2.1 := fun e2 => h (Prod.ext e e2)
    rcases valsLow_tot hl hv with h1 | h1
    · exact .inl (.inr ⟨e, h1⟩)
    · exact .inr (.inr ⟨e.symm, h1⟩)
  · rcases lower_tot e with h1 | h1
    · exact .inl (.inl h1)
    · exact .inr (.inl h1)
theorem addO_mem {o : Key} {n : Int} : ∀ {l : List Out} {x : Out}, x ∈ addO o n l → keyO x = o ∨ x ∈ l
  | [], x, h => by simp [addO] at h; exact .inl (by rw [h]; rfl)
  | d :: l, x, h => by
    rw [addO] at h
    split at h
    · rcases List.mem_cons.1 h with e | e
      · exact .inr (by rw [e]; simp)
      · rcases addO_mem e with e | e
        · exact .inl e
        · exact .inr (List.mem_cons_of_mem _ e)
    · split at h
      · rename_i hd
        rcases List.mem_cons.1 h with e | e
        · exact .inl (by rw [e]; exact hd)
        · exact .inr (List.mem_cons_of_mem _ e)
      · rcases List.mem_cons.1 h with e | e
        · exact .inl (by rw [e]; rfl)
        · exact .inr e
theorem addO_srt {o : Key} {n : Int} {d : Nat} (ho : o.2.length = d) : ∀ {l : List Out}, (∀ x ∈ l, x.2.1.length = d) → SrtO l → SrtO (addO o n l)
  | [], _, _ => by simp [addO, SrtO]
  | x :: l, hv, h => by
    have h1 := List.pairwise_cons.1 h
    rw [addO]
    split
    · rename_i hd
      refine List.pairwise_cons.2 ⟨fun y hy => ?_, addO_srt ho (fun y hy => hv y (by simp [hy])) h1.2⟩
      rcases addO_mem hy with e | e
      · exact (lowO_key (a := x) (b := y) (a' := x) rfl (show keyO y = keyO (o.1, o.2, n) from e)).trans hd
      · exact h1.1 y e
    · split
      · refine List.pairwise_cons.2 ⟨fun y hy => ?_, h1.2⟩
        exact (lowO_key (a := (x.1, x.2.1, x.2.2 + n)) (b := y) (a' := x) (b' := y) rfl rfl).trans (h1.1 y hy)
      · rename_i hd hr
        have hcd : lowO (o.1, o.2, n) x = true := by
          rcases lowO_tot (a := x) (b := (o.1, o.2, n)) ((hv x (by simp)).trans ho.symm) hr with e | e
          · exact absurd e hd
          · exact e
        refine List.pairwise_cons.2 ⟨fun y hy => ?_, h⟩
        rcases List.mem_cons.1 hy with e | e
        · rw [e]; exact hcd
        · exact lowO_tr hcd (h1.1 y e)
theorem addO_sum (o : Key) (n : Int) (k : Key) : ∀ l : List Out, sumO (addO o n l) k = sumO l k + (if o = k then n else 0)
  | [] => by
    have : keyO (o.1, o.2, n) = o := rfl
    simp only [addO, sumO, this]; omega
  | d :: l => by
    have ih := addO_sum o n k l
    rw [addO]
    split
    · simp only [sumO]; rw [ih]; omega
    · split
      · rename_i hr
        have e2 : keyO (d.1, d.2.1, d.2.2 + n) = o := hr
        simp only [sumO, hr, e2]
        split <;> omega
      · have : keyO (o.1, o.2, n) = o := rfl
        simp only [sumO, this]; omega
theorem addO_len (o : Key) (n : Int) : ∀ l : List Out, (addO o n l).length ≤ l.length + 1
  | [] => by simp [addO]
  | d :: l => by
    have ih := addO_len o n l
    rw [addO]
    split
    · simp; omega
    · split <;> simp
theorem addO_bd {o : Key} {n b : Int} (hn : -1 ≤ n) (hn2 : n ≤ 1) (h0 : 0 ≤ b) : ∀ {l : List Out}, (∀ x ∈ l, -b ≤ x.2.2 ∧ x.2.2 ≤ b) → ∀ x ∈ addO o n l, -(b + 1) ≤ x.2.2 ∧ x.2.2 ≤ b + 1
  | [], _, x, h => by simp [addO] at h; rw [h]; simp; omega
  | d :: l, hb, x, h => by
    have hd := hb d (by simp)
    rw [addO] at h
    split at h
    · rcases List.mem_cons.1 h with e | e
      · rw [e]; omega
      · exact addO_bd hn hn2 h0 (fun y hy => hb y (by simp [hy])) x e
    · split at h
      · rcases List.mem_cons.1 h with e | e
        · rw [e]; simp; omega
        · have := hb x (by simp [e]); omega
      · rcases List.mem_cons.1 h with e | e
        · rw [e]; simp; omega
        · have := hb x e; omega
/-- all these added up, each so many times -/
def addAll (sign : Int) (l : List Out) (s : List Out) : List Out := l.foldl (fun s o => addO (keyO o) (sign * o.2.2) s) s
theorem addAll_take (sign : Int) (l s : List Out) (k : Nat) (h : k < l.length) : addAll sign (l.take (k + 1)) s = addO (keyO l[k]) (sign * l[k].2.2) (addAll sign (l.take k) s) := by
  unfold addAll
  rw [List.take_succ_eq_append_getElem h, List.foldl_append]; rfl
/-- what holds of the sums: in order, as many values as there are FUNCs, short, bounded -/
structure SumOk (d m : Nat) (s : List Out) : Prop where
  srt : SrtO s
  vals : ∀ x ∈ s, x.2.1.length = d
  len : s.length ≤ m
  bd : ∀ x ∈ s, -(m : Int) ≤ x.2.2 ∧ x.2.2 ≤ m
theorem SumOk.nil (d : Nat) : SumOk d 0 [] := ⟨List.Pairwise.nil, fun _ h => (List.not_mem_nil h).elim, Nat.le_refl _, fun _ h => (List.not_mem_nil h).elim⟩
theorem SumOk.add {d m : Nat} {s : List Out} (h : SumOk d m s) {o : Key} (ho : o.2.length = d) {n : Int} (hn : -1 ≤ n) (hn2 : n ≤ 1) : SumOk d (m + 1) (addO o n s) := by
  refine ⟨addO_srt ho h.vals h.srt, fun x hx => ?_, Nat.le_trans (addO_len o n s) (by have := h.len; omega), fun x hx => ?_⟩
  · rcases addO_mem hx with e | e
    · rw [show x.2.1 = o.2 from congrArg Prod.snd e]; exact ho
    · exact h.vals x e
  · have := addO_bd hn hn2 (by omega) h.bd x hx
    omega
theorem SumOk.all {d : Nat} {sign : Int} (hs : sign = 1 ∨ sign = -1) : ∀ (l : List Out) {m : Nat} {s : List Out}, SumOk d m s → (∀ o ∈ l, o.2.1.length = d ∧ o.2.2 = 1) → SumOk d (m + l.length) (addAll sign l s) ∧ ∀ k, sumO (addAll sign l s) k = sumO s k + sign * sumO l k
  | [], m, s, h, _ => ⟨h, fun k => by simp [addAll, sumO]⟩
  | o :: l, m, s, h, hl => by
    have ho := hl o (by simp)
    have hn : sign * o.2.2 = sign := by rw [ho.2]; simp
    have h1 := h.add (o := keyO o) ho.1 (n := sign * o.2.2) (by rw [hn]; omega) (by rw [hn]; omega)
    have ih := SumOk.all hs l h1 (fun x hx => hl x (by simp [hx]))
    have e : addAll sign (o :: l) s = addAll sign l (addO (keyO o) (sign * o.2.2) s) := rfl
    rw [e]
    refine ⟨by have := ih.1; rwa [show m + 1 + l.length = m + (o :: l).length by simp; omega] at this, fun k => ?_⟩
    rw [ih.2 k, addO_sum, sumO, Int.mul_add]
    by_cases hk : keyO o = k
    · rw [if_pos hk, if_pos hk]; omega
    · rw [if_neg hk, if_neg hk]; simp
theorem one_sum {l : List Out} (h1 : l.Pairwise (fun x y => ¬ (x.1 = y.1 ∧ x.2.1 = y.2.1))) {x : Out} (hx : x ∈ l) : sumO l (keyO x) = x.2.2 := by
  induction l with
  | nil => simp at hx
  | cons d l ih =>
    rw [List.pairwise_cons] at h1
    rw [sumO]
    rcases List.mem_cons.1 hx with rfl | hx
    · rw [if_pos rfl, sumO_none]
      · omega
      · intro o ho e
        exact h1.1 o ho ⟨(Prod.ext_iff.1 e).1.symm, (Prod.ext_iff.1 e).2.symm⟩
    · rw [ih h1.2 hx, if_neg]
      · omega
      · intro e
        exact h1.1 x hx ⟨(Prod.ext_iff.1 e).1, (Prod.ext_iff.1 e).2⟩
theorem sum_mem {l : List Out} {k : Key} (h : sumO l k ≠ 0) : ∃ x ∈ l, keyO x = k := Classical.byContradiction fun hno => h (sumO_none (fun o ho e => hno ⟨o, ho, e⟩))
theorem SrtO.one {l : List Out} (h : SrtO l) : l.Pairwise (fun x y => ¬ (x.1 = y.1 ∧ x.2.1 = y.2.1)) := h.imp (fun {x y} hxy e => by
  have : lowO x y = lowO x x := lowO_key rfl (Prod.ext e.1.symm e.2.symm)
  rw [this, lowO_irr] at hxy; cases hxy)
/-- two lists in order with the same sums, those of none left out, are one -/
theorem outs_eq {a b : List Out} (ha : SrtO a) (hb : SrtO b) (na : ∀ x ∈ a, x.2.2 ≠ 0) (nb : ∀ x ∈ b, x.2.2 ≠ 0) (h : ∀ k, sumO a k = sumO b k) : a = b := by
  have key : ∀ {a b : List Out}, SrtO a → SrtO b → (∀ x ∈ a, x.2.2 ≠ 0) → (∀ k, sumO a k = sumO b k) → ∀ x, x ∈ a → x ∈ b := by
    intro a b ha hb na h x hx
    have e := one_sum ha.one hx
    rw [h] at e
    obtain ⟨y, hy, ey⟩ := sum_mem (l := b) (k := keyO x) (by rw [e]; exact na x hx)
    have e2 := one_sum hb.one hy
    rw [ey, e] at e2
    have : x = y := Prod.ext (Prod.ext_iff.1 ey).1.symm (Prod.ext (Prod.ext_iff.1 ey).2.symm e2)
    rw [this]; exact hy
  exact sorted_eq (lt := lowO) (fun x _ => lowO_irr x) (fun x _ y _ q => lowO_asym q) ha hb (fun x => ⟨key ha hb na h x, key hb ha nb (fun k => (h k).symm) x⟩)
theorem listF_spec {m d : Nat} {l : List Out} (h : Fit m d l) : SrtO (listF l) ∧ (∀ x ∈ listF l, x.2.2 ≠ 0 ∧ x.2.1.length = d) ∧ ∀ k, sumO (listF l) k = sumO l k := by
  have hnd : l.Nodup := by
    rw [List.nodup_iff_pairwise_ne]
    exact h.one.imp (fun {x y} q e => q ⟨by rw [e], by rw [e]⟩)
  have hp := place_spec zOut h.order hnd
  have hsrt : SrtO (place lowO zOut l) := by
    unfold SrtO
    rw [List.pairwise_iff_getElem]
    intro i j hi hj hij
    exact hp.2.2 i j _ _ (List.getElem?_eq_getElem hi) (List.getElem?_eq_getElem hj) hij
  have hs2 : SrtO (listF l) := hsrt.filter _
  have hmem : ∀ x, x ∈ listF l ↔ x ∈ l ∧ x.2.2 ≠ 0 := fun x => by
    unfold listF
    rw [List.mem_filter, hp.2.1 x]
    simp
  refine ⟨hs2, fun x hx => ⟨((hmem x).1 hx).2, h.vals x ((hmem x).1 hx).1⟩, fun k => ?_⟩
  by_cases hk : sumO l k = 0
  · rw [hk]
    refine Classical.byContradiction fun hne => ?_
    obtain ⟨x, hx, e⟩ := sum_mem hne
    have h1 := one_sum h.one ((hmem x).1 hx).1
    rw [e, hk] at h1
    exact ((hmem x).1 hx).2 h1.symm
  · obtain ⟨x, hx, e⟩ := sum_mem hk
    have h1 := one_sum h.one hx
    have hx2 : x ∈ listF l := (hmem x).2 ⟨hx, by rw [← h1, e]; exact hk⟩
    have h2 := one_sum hs2.one hx2
    rw [e] at h1 h2
    omega
theorem filter_nz {d m : Nat} {s : List Out} (h : SumOk d m s) : SrtO (s.filter (fun o => !(o.2.2 == 0))) ∧ (∀ x ∈ s.filter (fun o => !(o.2.2 == 0)), x.2.2 ≠ 0) ∧ ∀ k, sumO (s.filter (fun o => !(o.2.2 == 0))) k = sumO s k := by
  refine ⟨h.srt.filter _, fun x hx => by simpa using (List.mem_filter.1 hx).2, fun k => ?_⟩
  clear h
  induction s with
  | nil => rfl
  | cons d l ih =>
    by_cases hd : d.2.2 = 0
    · rw [List.filter_cons_of_neg (by simp [hd]), ih, sumO, hd]; simp
    · rw [List.filter_cons_of_pos (by simp [hd]), sumO, sumO, ih]
/-- the program's Rows -/
def rowsP (q : Qry) (t : List Chg) : List Out := (addAll 1 (outsP q (linesP q.ks q.cs t)) []).filter (fun o => !(o.2.2 == 0))
/-- what the program's Apply tells -/
def toldP (q : Qry) (t t2 : List Chg) : List Out := (addAll (-1) (outsP q (linesP q.ks q.cs t)) (addAll 1 (outsP q (linesP q.ks q.cs t2)) [])).filter (fun o => !(o.2.2 == 0))
theorem outsP_ok (q : Qry) (all : List (List R3)) : ∀ o ∈ outsP q all, o.2.1.length = q.fs.length ∧ o.2.2 = 1 := fun o ho => by
  obtain ⟨l, _, ho⟩ := List.mem_flatMap.1 ho
  exact (shownG_row q l l 1 o ho).2
theorem rowsP_eq {q : Qry} {t : List Chg} (ht : TInv t) : rowsP q t = rowsF q t := by
  have hL := LInv.lines q.ks q.cs _ t rfl ht.pos
  have hS := SumOk.all (d := q.fs.length) (.inl rfl) (outsP q (linesP q.ks q.cs t)) (SumOk.nil _) (outsP_ok q _)
  have hN := filter_nz hS.1
  obtain ⟨m, hf⟩ := shownF_fit (q := q) (t := t) (sign := 1) (by omega) (by omega) (Fit.nil _)
  have hF := listF_spec hf
  refine outs_eq hN.1 hF.1 hN.2.1 (fun x hx => (hF.2.1 x hx).1) (fun k => ?_)
  show sumO (List.filter _ _) k = sumO (listF (shownF q t 1 [])) k
  rw [hN.2.2, hF.2.2, hS.2, outsP_sum ht hL, shownF_sum ht (by omega) (by omega) (Fit.nil _)]
theorem toldP_eq {q : Qry} {t b : List Chg} (ht : TInv t) (h0 : (refusedF t b).1 = 0) : toldP q t (tableF t b) = appliedF q t b := by
  have ht2 := (ht.next h0).1
  have hL := LInv.lines q.ks q.cs _ t rfl ht.pos
  have hL2 := LInv.lines q.ks q.cs _ (tableF t b) rfl ht2.pos
  have hS := SumOk.all (d := q.fs.length) (.inl rfl) (outsP q (linesP q.ks q.cs (tableF t b))) (SumOk.nil _) (outsP_ok q _)
  have hS2 := SumOk.all (d := q.fs.length) (.inr rfl) (outsP q (linesP q.ks q.cs t)) hS.1 (outsP_ok q _)
  have hN := filter_nz hS2.1
  obtain ⟨m, hf⟩ := shownF_fit (q := q) (t := tableF t b) (sign := 1) (by omega) (by omega) (Fit.nil _)
  obtain ⟨m2, hf2⟩ := shownF_fit (q := q) (t := t) (sign := -1) (by omega) (by omega) hf
  have hF := listF_spec hf2
  have e : appliedF q t b = listF (shownF q t (-1) (shownF q (tableF t b) 1 [])) := by unfold appliedF; rw [if_pos h0]
  rw [e]
  refine outs_eq hN.1 hF.1 hN.2.1 (fun x hx => (hF.2.1 x hx).1) (fun k => ?_)
  show sumO (List.filter _ _) k = _
  rw [hN.2.2, hF.2.2, hS2.2, hS.2, outsP_sum ht hL, outsP_sum ht2 hL2, shownF_sum ht (by omega) (by omega) hf, shownF_sum ht2 (by omega) (by omega) (Fit.nil _)]
end Pv
end Go.Proofs.YtcoofnhdbejnpaaGreatDoor

