/- Plain functions: a part of a view is as if there were no others. -/
import Derived.Test.YtcoofnhdbejnpaaGreatDoorG11
namespace Go.Proofs.YtcoofnhdbejnpaaGreatDoor
namespace Pk
open Pq (Bytes)
open Pv (R3 Chg)
theorem allRows_p : ∀ r ∈ allRows, 0 ≤ r.1 ∧ r.1 ≤ 2 := by
  intro r hr
  unfold allRows at hr
  obtain ⟨p, hp, hr⟩ := List.mem_flatMap.1 hr
  obtain ⟨k, hk, hr⟩ := List.mem_flatMap.1 hr
  obtain ⟨v, hv, rfl⟩ := List.mem_map.1 hr
  have := List.mem_range.1 hp
  simp only []
  omega
theorem row_iff (r : R3) : Pv.rowOk r = true ↔ (-1000 ≤ r.1 ∧ r.1 ≤ 1000) ∧ (-1000 ≤ r.2.1 ∧ r.2.1 ≤ 1000) ∧ -1000 ≤ r.2.2 ∧ r.2.2 ≤ 1000 := by
  unfold Pv.rowOk Pv.between
  simp only [Bool.and_eq_true, decide_eq_true_eq]
/-- rows of other parts turn nothing in a part's line -/
theorem part_line {ks : List (Nat × Bool)} {t1 t2 : List Chg} (h1 : Pv.TInv t1) (h2 : Pv.TInv t2) {p : Int} (hA : ∀ x : R3, x.1 = p → Pv.sumOf t2 x = Pv.sumOf t1 x) (hB : ∀ x : R3, x.1 ≠ p → Pv.sumOf t1 x = 0) {r : R3} (hr : r.1 = p) : Pv.lineR ks [0] t2 r = Pv.lineR ks [] t1 r := by
  refine Pv.srtL_eq (Pv.lineR_srt ks h2.tab r) (Pv.lineR_srt ks h1.tab r) (fun x => ?_)
  rw [Pv.lineR_count ks h2.tab (fun c hc => by have := h2.pos c hc; omega), Pv.lineR_count ks h1.tab (fun c hc => by have := h1.pos c hc; omega)]
  have e : Pv.matesC [] x r = true := rfl
  rw [if_pos e]
  by_cases hx : x.1 = p
  · have : Pv.matesC [0] x r = true := by simp [Pv.matesC, Pv.colV, hx, hr]
    rw [if_pos this, hA x hx]
  · have : ¬ Pv.matesC [0] x r = true := by simp [Pv.matesC, Pv.colV, hr, hx]
    rw [if_neg this, hB x hx]; rfl
/-- the same query, by p -/
def byP (q : Pv.Qry) : Pv.Qry := { q with cs := [0] }
theorem shownG_byP (q : Pv.Qry) (l : List R3) : ∀ (m : List R3) (i : Nat), Pv.shownG (byP q) l i m = Pv.shownG q l i m
  | [], _ => rfl
  | x :: m, i => by
    have ih := shownG_byP q l m (i + 1)
    rw [Pv.shownG, Pv.shownG, ih]
    rfl
theorem part_cnt {q : Pv.Qry} (hq : q.cs = []) {t1 t2 : List Chg} (h1 : Pv.TInv t1) (h2 : Pv.TInv t2) {p : Int} (hA : ∀ x : R3, x.1 = p → Pv.sumOf t2 x = Pv.sumOf t1 x) (hB : ∀ x : R3, x.1 ≠ p → Pv.sumOf t1 x = 0) {k : Pv.Key} (hk : k.1.1 = p) : Pv.cntT (byP q) t2 k = Pv.cntT q t1 k := by
  unfold Pv.cntT
  have e : Pv.lineR (byP q).ks (byP q).cs t2 k.1 = Pv.lineR q.ks q.cs t1 k.1 := by rw [hq]; exact part_line h1 h2 hA hB hk
  rw [hA k.1 hk, e]
  unfold Pv.shownP
  rw [shownG_byP]
theorem part_none {q : Pv.Qry} {t1 : List Chg} {k : Pv.Key} (h : Pv.sumOf t1 k.1 = 0) : Pv.cntT q t1 k = 0 := by
  unfold Pv.cntT
  rw [if_neg (by omega)]
/-- of a list those of one part -/
def onlyF (l : List Pv.Out) (p : Int) : List Pv.Out := l.filter (fun o => decide (o.1.1 = p))
theorem only_sum (l : List Pv.Out) (p : Int) (k : Pv.Key) : Pv.sumO (onlyF l p) k = if k.1.1 = p then Pv.sumO l k else 0 := by
  unfold onlyF
  induction l with
  | nil => simp [Pv.sumO]
  | cons o l ih =>
    by_cases h : o.1.1 = p
    · rw [List.filter_cons_of_pos (by simp [h]), Pv.sumO, Pv.sumO, ih]
      by_cases e : Pv.keyO o = k
      · have : k.1.1 = p := by rw [← e]; exact h
        simp [this]
      · simp only [if_neg e]
        split <;> simp
    · rw [List.filter_cons_of_neg (by simp [h]), ih, Pv.sumO]
      by_cases e : Pv.keyO o = k
      · have : ¬ k.1.1 = p := by rw [← e]; exact h
        simp [this]
      · simp only [if_neg e]
        split <;> simp
/-- rows that are turned into others: what is left of each -/
def mapR (g : R3 → R3) (l : List Chg) : List Chg := l.map (fun c => (g c.1, c.2))
theorem mapR_sum (g : R3 → R3) (l : List Chg) (r : R3) : Pv.sumOf (mapR g l) r = Pv.totalF (l.filter (fun c => decide (g c.1 = r))) := by
  unfold mapR
  induction l with
  | nil => rfl
  | cons c l ih =>
    rw [List.map_cons, Pv.sumOf, ih]
    by_cases h : g c.1 = r
    · rw [List.filter_cons_of_pos (by simp [h]), Pv.total_cons]; simp [h]
    · rw [List.filter_cons_of_neg (by simp [h])]; simp [h]
theorem filt_sum (P : R3 → Bool) (l : List Chg) (x : R3) : Pv.sumOf (l.filter (fun c => P c.1)) x = if P x then Pv.sumOf l x else 0 := by
  induction l with
  | nil => simp [Pv.sumOf]
  | cons c l ih =>
    by_cases h : P c.1 = true
    · rw [List.filter_cons_of_pos (by simp [h]), Pv.sumOf, Pv.sumOf, ih]
      by_cases e : c.1 = x
      · rw [e] at h; simp [h]
      · simp only [if_neg e]
        split <;> simp
    · rw [List.filter_cons_of_neg (by simp [h]), ih, Pv.sumOf]
      by_cases e : c.1 = x
      · rw [e] at h; simp [h]
      · simp only [if_neg e]
        split <;> simp
theorem mapR_same {a b : List Chg} (h : ∀ r, Pv.sumOf a r = Pv.sumOf b r) (g : R3 → R3) (r : R3) : Pv.sumOf (mapR g a) r = Pv.sumOf (mapR g b) r := by
  rw [mapR_sum, mapR_sum]
  refine total_eq (fun x => ?_)
  have e1 := filt_sum (fun y => decide (g y = r)) a x
  have e2 := filt_sum (fun y => decide (g y = r)) b x
  rw [e1, e2, h x]
theorem mapR_total (g : R3 → R3) (l : List Chg) : Pv.totalF (mapR g l) = Pv.totalF l := by
  unfold mapR Pv.totalF
  rw [List.map_map]
  rfl
theorem mapR_mem {g : R3 → R3} {l : List Chg} {c : Chg} (h : c ∈ mapR g l) : ∃ d ∈ l, c = (g d.1, d.2) := by
  obtain ⟨d, hd, rfl⟩ := List.mem_map.1 h
  exact ⟨d, hd, rfl⟩
theorem total_app (a b : List Chg) : Pv.totalF (a ++ b) = Pv.totalF a + Pv.totalF b := by simp [Pv.totalF]
def setP (p : Int) (r : R3) : R3 := (p, r.2)
def addP (p : Int) (r : R3) : R3 := (p + 1 + r.1, r.2)
/-- one part's batch, and the other parts' -/
def mineF (s : Bytes) (p : Int) : List Chg := mapR (setP p) (batchF s [] 0).l
def theirsF (s o : Bytes) (p : Int) : List Chg := mapR (addP p) (batchF o [] (batchF s [] 0).all).l
theorem all_bd (s : Bytes) : 0 ≤ (batchF s [] 0).all ∧ (batchF s [] 0).all ≤ 40 := by
  have h := (batch_inv s CInv.nil).inv
  refine ⟨?_, h.top⟩
  rw [← h.tot]
  clear h
  have hn := (batch_inv s CInv.nil).inv.nn
  generalize (batchF s [] 0).cs = l at *
  induction l with
  | nil => simp [Pv.totalF]
  | cons c l ih =>
    have := ih (fun d hd => hn d (by simp [hd]))
    have hc := hn c (by simp)
    rw [Pv.total_cons]; omega
theorem theirs_inv (s o : Bytes) : DBInv (batchF s [] 0).all [] (batchF o [] (batchF s [] 0).all) 8 := dbatch_inv o (DInv.nil (all_bd s).1 (all_bd s).2)
theorem mine_ok (s : Bytes) {p : Int} (hp : 0 ≤ p) (hp2 : p < 900) : Pv.refusedF [] (mineF s p) = (0, 0) ∧ Same (Pv.tableF [] (mineF s p)) (mapR (setP p) (batchF s [] 0).cs) := by
  have h := batch_inv s CInv.nil
  refine not_refused (by simp only [mineF, mapR, List.length_map]; have := h.len; omega) (fun c hc => ?_) (fun r => ?_) (fun c hc => ?_) ?_
  · obtain ⟨d, hd, rfl⟩ := mapR_mem hc
    obtain ⟨h1, h2⟩ := h.chg d hd
    refine ⟨?_, h2⟩
    exact (row_iff (p, d.1.2)).2 ⟨⟨by simp only []; omega, by simp only []; omega⟩, ((row_iff d.1).1 h1).2⟩
  · have := mapR_same (a := (batchF s [] 0).l) (b := (batchF s [] 0).cs) (fun r => by rw [h.sum r]; simp [Pv.sumOf]) (setP p) r
    show Pv.sumOf [] r + Pv.sumOf (mapR (setP p) _) r = _
    rw [this]; simp [Pv.sumOf]
  · obtain ⟨d, hd, rfl⟩ := mapR_mem hc
    exact h.inv.nn d hd
  · rw [mapR_total, h.inv.tot]; exact h.inv.top
theorem theirs_ok (s o : Bytes) {p : Int} (hp : 0 ≤ p) (hp2 : p < 900) : Pv.refusedF (Pv.tableF [] (mineF s p)) (theirsF s o p) = (0, 0) := by
  have h := batch_inv s CInv.nil
  have d := theirs_inv s o
  refine (not_refused (cs' := mapR (setP p) (batchF s [] 0).cs ++ mapR (addP p) (batchF o [] (batchF s [] 0).all).cs) (by simp only [theirsF, mapR, List.length_map]; have := d.len; omega) (fun c hc => ?_) (fun r => ?_) (fun c hc => ?_) ?_).1
  · obtain ⟨e, he, rfl⟩ := mapR_mem hc
    obtain ⟨⟨h1, h2⟩, h3⟩ := d.chg e he
    have h4 := allRows_p _ h3
    refine ⟨?_, h2⟩
    exact (row_iff (p + 1 + e.1.1, e.1.2)).2 ⟨⟨by simp only []; omega, by simp only []; omega⟩, ((row_iff e.1).1 h1).2⟩
  · have := mapR_same (a := (batchF o [] (batchF s [] 0).all).l) (b := (batchF o [] (batchF s [] 0).all).cs) (fun r => by rw [d.sum r]; simp [Pv.sumOf]) (addP p) r
    rw [(mine_ok s hp hp2).2 r, Pv.sumOf_app]
    show _ + Pv.sumOf (mapR (addP p) _) r = _
    rw [this]
  · rcases List.mem_append.1 hc with q | q
    · obtain ⟨e, he, rfl⟩ := mapR_mem q
      exact h.inv.nn e he
    · obtain ⟨e, he, rfl⟩ := mapR_mem q
      exact d.inv.nn e he
  · rw [total_app, mapR_total, mapR_total, h.inv.tot]
    have := d.inv.tot
    have := d.inv.top
    omega
theorem mine_tab (s : Bytes) {p : Int} (hp : 0 ≤ p) (hp2 : p < 900) : Pv.TInv (Pv.tableF [] (mineF s p)) := (Pv.TInv.nil.next (by rw [(mine_ok s hp hp2).1])).1
theorem theirs_tab (s o : Bytes) {p : Int} (hp : 0 ≤ p) (hp2 : p < 900) : Pv.TInv (Pv.tableF (Pv.tableF [] (mineF s p)) (theirsF s o p)) := ((mine_tab s hp hp2).next (by rw [theirs_ok s o hp hp2])).1
theorem mine_none (s : Bytes) {p : Int} (x : R3) (hx : x.1 ≠ p) : Pv.sumOf (Pv.tableF [] (mineF s p)) x = 0 := by
  rw [Pv.tableF_sum, Pv.sumOf_none (l := mineF s p)]
  · rfl
  · intro c hc e
    obtain ⟨d, hd, rfl⟩ := mapR_mem hc
    exact hx (by rw [← e]; rfl)
theorem theirs_none (s o : Bytes) {p : Int} (x : R3) (hx : x.1 = p) : Pv.sumOf (Pv.tableF (Pv.tableF [] (mineF s p)) (theirsF s o p)) x = Pv.sumOf (Pv.tableF [] (mineF s p)) x := by
  rw [Pv.tableF_sum (Pv.tableF [] (mineF s p)), Pv.sumOf_none (l := theirsF s o p)]
  · omega
  · intro c hc e
    obtain ⟨d, hd, rfl⟩ := mapR_mem hc
    have h4 := allRows_p _ ((theirs_inv s o).chg d hd).2
    have : p + 1 + d.1.1 = p := by rw [← hx, ← e]; simp only [addP] at hx e ⊢; rw [← e] at hx; simp only [] at hx; omega
    omega
/-- the part's own batch tells the same, with others or without -/
theorem parted_told (s : Bytes) {q : Pv.Qry} (hq : q.cs = []) {p : Int} (hp : 0 ≤ p) (hp2 : p < 900) : Pv.appliedF (byP q) [] (mineF s p) = Pv.appliedF q [] (mineF s p) := by
  have h0 : (Pv.refusedF [] (mineF s p)).1 = 0 := by rw [(mine_ok s hp hp2).1]
  have a1 := applied_spec (q := byP q) Pv.TInv.nil h0
  have a2 := applied_spec (q := q) Pv.TInv.nil h0
  refine Pv.outs_eq a1.1 a2.1 (fun x hx => (a1.2.1 x hx).1) (fun x hx => (a2.2.1 x hx).1) (fun k => ?_)
  rw [a1.2.2, a2.2.2, cnt_nil, cnt_nil]
  by_cases hk : k.1.1 = p
  · rw [part_cnt hq (mine_tab s hp hp2) (mine_tab s hp hp2) (fun _ _ => rfl) (fun x hx => mine_none s x hx) hk]
  · rw [part_none (mine_none s k.1 hk), part_none (mine_none s k.1 hk)]
/-- a batch of another part tells nothing of it -/
theorem parted_still (s o : Bytes) {q : Pv.Qry} (hq : q.cs = []) {p : Int} (hp : 0 ≤ p) (hp2 : p < 900) : onlyF (Pv.appliedF (byP q) (Pv.tableF [] (mineF s p)) (theirsF s o p)) p = [] := by
  have h0 : (Pv.refusedF (Pv.tableF [] (mineF s p)) (theirsF s o p)).1 = 0 := by rw [theirs_ok s o hp hp2]
  have a1 := applied_spec (q := byP q) (mine_tab s hp hp2) h0
  refine Pv.outs_eq (a1.1.filter _) List.Pairwise.nil (fun x hx => (a1.2.1 x (List.mem_filter.1 hx).1).1) (fun x hx => by simp at hx) (fun k => ?_)
  show Pv.sumO (onlyF _ p) k = 0
  rw [only_sum]
  by_cases hk : k.1.1 = p
  · rw [if_pos hk, a1.2.2, part_cnt hq (mine_tab s hp hp2) (theirs_tab s o hp hp2) (fun x hx => theirs_none s o x hx) (fun x hx => mine_none s x hx) hk, part_cnt hq (mine_tab s hp hp2) (mine_tab s hp hp2) (fun _ _ => rfl) (fun x hx => mine_none s x hx) hk]
    omega
  · rw [if_neg hk]
/-- a part is as if there were no others -/
theorem parted_left (s o : Bytes) {q : Pv.Qry} (hq : q.cs = []) {p : Int} (hp : 0 ≤ p) (hp2 : p < 900) : onlyF (Pv.rowsF (byP q) (Pv.tableF (Pv.tableF [] (mineF s p)) (theirsF s o p))) p = Pv.rowsF q (Pv.tableF [] (mineF s p)) := by
  have a1 := rows_spec (q := byP q) (theirs_tab s o hp hp2)
  have a2 := rows_spec (q := q) (mine_tab s hp hp2)
  refine Pv.outs_eq (a1.1.filter _) a2.1 (fun x hx => (a1.2.1 x (List.mem_filter.1 hx).1).1) (fun x hx => (a2.2.1 x hx).1) (fun k => ?_)
  rw [a2.2.2]
  show Pv.sumO (onlyF _ p) k = _
  rw [only_sum, a1.2.2]
  by_cases hk : k.1.1 = p
  · rw [if_pos hk, part_cnt hq (mine_tab s hp hp2) (theirs_tab s o hp hp2) (fun x hx => theirs_none s o x hx) (fun x hx => mine_none s x hx) hk]
  · rw [if_neg hk, part_none (mine_none s k.1 hk)]
theorem ones_sum : ∀ {l : List Pv.Out}, (∀ o ∈ l, o.2.2 = 1) → (∀ k, 0 ≤ Pv.sumO l k) ∧ ∀ o ∈ l, 1 ≤ Pv.sumO l (Pv.keyO o)
  | [], _ => ⟨fun _ => by simp [Pv.sumO], fun _ h => by simp at h⟩
  | c :: l, h => by
    have ih := ones_sum (l := l) (fun o ho => h o (by simp [ho]))
    have hc := h c (by simp)
    refine ⟨fun k => ?_, fun o ho => ?_⟩
    · have := ih.1 k
      rw [Pv.sumO, hc]
      split <;> omega
    · rw [Pv.sumO, hc]
      rcases List.mem_cons.1 ho with rfl | ho
      · have := ih.1 (Pv.keyO o)
        rw [if_pos rfl]; omega
      · have := ih.2 o ho
        split <;> omega
theorem shownG_all {q : Pv.Qry} (hq : q.top < 0) (l : List R3) : ∀ (m : List R3) (i : Nat), ∀ x ∈ m, ∃ o ∈ Pv.shownG q l i m, o.1 = x
  | [], _, x, h => by simp at h
  | y :: m, i, x, h => by
    have ht : Pv.topOk q i = true := by simp [Pv.topOk, hq]
    rw [Pv.shownG, if_pos ht]
    rcases List.mem_cons.1 h with rfl | h
    · exact ⟨_, List.mem_cons_self .., rfl⟩
    · obtain ⟨o, ho, e⟩ := shownG_all hq l m (i + 1) x h
      exact ⟨o, List.mem_cons_of_mem _ ho, e⟩
/-- without top there is something to see where there are copies -/
theorem rows_some {q : Pv.Qry} (hq : q.top < 0) {t : List Chg} (ht : Pv.TInv t) (h : Pv.totalF t ≠ 0) : Pv.rowsF q t ≠ [] := by
  intro he
  have a := rows_spec (q := q) ht
  rw [he] at a
  cases t with
  | nil => exact h rfl
  | cons c t =>
    have hs := Pv.sum_pos_mem ht.pos (c := c) (by simp)
    have hcnt := Pv.lineR_count q.ks (cs := q.cs) ht.tab (fun c hc => by have := ht.pos c hc; omega) c.1 c.1
    rw [Pv.mates_refl, if_pos rfl] at hcnt
    have hm : c.1 ∈ Pv.lineR q.ks q.cs (c :: t) c.1 := List.count_pos_iff.1 (by rw [hcnt]; omega)
    obtain ⟨o, ho, e⟩ := shownG_all hq (Pv.lineR q.ks q.cs (c :: t) c.1) _ 1 c.1 hm
    have h1 := (ones_sum (fun o ho => (Pv.shownG_row q _ _ 1 o ho).2.2)).2 o ho
    have h2 := a.2.2 (Pv.keyO o)
    unfold Pv.cntT at h2
    have e2 : (Pv.keyO o).1 = c.1 := e
    rw [e2, if_pos hs] at h2
    have h3 : Pv.sumO ([] : List Pv.Out) (Pv.keyO o) = 0 := rfl
    rw [h3] at h2
    unfold Pv.shownP at h2
    omega
theorem parted_some (s : Bytes) {q : Pv.Qry} (ht : q.top < 0) {p : Int} (hp : 0 ≤ p) (hp2 : p < 900) (h : (batchF s [] 0).all ≠ 0) : Pv.rowsF q (Pv.tableF [] (mineF s p)) ≠ [] := by
  refine rows_some ht (mine_tab s hp hp2) ?_
  rw [total_eq (mine_ok s hp hp2).2, mapR_total, (batch_inv s CInv.nil).inv.tot]
  exact h
end Pk
end Go.Proofs.YtcoofnhdbejnpaaGreatDoor

