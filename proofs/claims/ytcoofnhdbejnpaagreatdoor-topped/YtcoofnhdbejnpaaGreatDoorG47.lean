/- Plain functions: top a from b shows the copies whose number is above b and at most b + a; without top all copies are shown. -/
import Derived.Test.YtcoofnhdbejnpaaGreatDoorG44
import Derived.Test.YtcoofnhdbejnpaaGreatDoorG11
namespace Go.Proofs.YtcoofnhdbejnpaaGreatDoor
namespace Pk
open Pq (Bytes)
open Pv (R3 Chg)
/-- number, as a FUNC -/
def fnNum : Pq.Fn := ⟨0, 0, 0, Pq.fr0⟩
def qN (q : Pv.Qry) : Pv.Qry := ⟨q.cs, q.ks, q.fs ++ [fnNum], -1, 0⟩
def qT (q : Pv.Qry) (a b : Int) : Pv.Qry := ⟨q.cs, q.ks, q.fs ++ [fnNum], a, b⟩
def numO (n : Nat) (vs : List Pv.Val) : Int := (vs[n]?.getD none).getD 0
def inTop (n : Nat) (a b : Int) (vs : List Pv.Val) : Bool := decide (b < numO n vs) && decide (numO n vs ≤ a + b)
theorem val_num (ks : List (Nat × Bool)) (l : List R3) (i : Nat) (h : i - 1 < l.length) : Pv.valR ks l fnNum i = some (i : Int) := by
  unfold Pv.valR Pv.valueF Pv.cp
  rw [List.getElem?_map, List.getElem?_eq_getElem h]
  rfl
theorem shown_top (q : Pv.Qry) (a b : Int) (ha : 0 ≤ a) (l : List R3) (k : Pv.Key) : ∀ (m : List R3) (i : Nat), 1 ≤ i → i - 1 + m.length = l.length → Pv.sumO (Pv.shownG (qT q a b) l i m) k = if inTop q.fs.length a b k.2 = true then Pv.sumO (Pv.shownG (qN q) l i m) k else 0
  | [], i, _, _ => by simp [Pv.shownG, Pv.sumO]
  | x :: m, i, hi, hl => by
    rw [List.length_cons] at hl
    have ih := shown_top q a b ha l k m (i + 1) (by omega) (by omega)
    have hv := val_num q.ks l i (by omega)
    have hN : Pv.topOk (qN q) i = true := by simp [Pv.topOk, qN]
    have hT : Pv.topOk (qT q a b) i = (decide (b < (i : Int)) && decide ((i : Int) ≤ a + b)) := by
      have e : ¬ (qT q a b).top < 0 := by show ¬ a < 0; omega
      unfold Pv.topOk
      rw [decide_eq_false e, Bool.false_or]
      show (decide (b < (i : Int)) && decide ((i : Int) ≤ b + a)) = _
      rw [Int.add_comm b a]
    rw [Pv.shownG, Pv.shownG, if_pos hN]
    have e1 : (qN q).fs.map (fun f => Pv.valR (qN q).ks l f i) = (q.fs ++ [fnNum]).map (fun f => Pv.valR q.ks l f i) := rfl
    have e2 : (qT q a b).fs.map (fun f => Pv.valR (qT q a b).ks l f i) = (q.fs ++ [fnNum]).map (fun f => Pv.valR q.ks l f i) := rfl
    rw [e1, e2]
    have hnum : numO q.fs.length ((q.fs ++ [fnNum]).map (fun f => Pv.valR q.ks l f i)) = i := by
      unfold numO
      rw [List.map_append, List.getElem?_append_right (by simp)]
      simp [hv]
    have hin : inTop q.fs.length a b ((q.fs ++ [fnNum]).map (fun f => Pv.valR q.ks l f i)) = Pv.topOk (qT q a b) i := by
      unfold inTop
      rw [hnum, hT]
    generalize (q.fs ++ [fnNum]).map (fun f => Pv.valR q.ks l f i) = vs at *
    rw [Pv.sumO]
    by_cases he : Pv.keyO (x, vs, (1 : Int)) = k
    · have hk2 : k.2 = vs := by rw [← he]; rfl
      rw [hk2, hin] at ih
      rw [hk2, hin]
      cases hb : Pv.topOk (qT q a b) i
      · rw [hb] at ih
        simp only [Bool.false_eq_true, if_false] at ih ⊢
        exact ih
      · rw [hb] at ih
        simp only [if_true] at ih ⊢
        rw [Pv.sumO, ih]
    · rw [if_neg he]
      have hz : Pv.sumO (if Pv.topOk (qT q a b) i = true then (x, vs, (1 : Int)) :: Pv.shownG (qT q a b) l (i + 1) m else Pv.shownG (qT q a b) l (i + 1) m) k = Pv.sumO (Pv.shownG (qT q a b) l (i + 1) m) k := by
        split
        · rw [Pv.sumO, if_neg he]; omega
        · rfl
      rw [hz, ih]
      split <;> omega
theorem cnt_top (q : Pv.Qry) (a b : Int) (ha : 0 ≤ a) (t : List Chg) (k : Pv.Key) : Pv.cntT (qT q a b) t k = if inTop q.fs.length a b k.2 = true then Pv.cntT (qN q) t k else 0 := by
  unfold Pv.cntT
  split
  · exact shown_top q a b ha (Pv.lineR q.ks q.cs t k.1) k (Pv.lineR q.ks q.cs t k.1) 1 (by omega) (by omega)
  · simp
theorem filtO_sum (P : Pv.Key → Bool) (l : List Pv.Out) (k : Pv.Key) : Pv.sumO (l.filter (fun o => P (Pv.keyO o))) k = if P k = true then Pv.sumO l k else 0 := by
  induction l with
  | nil => simp [Pv.sumO]
  | cons o l ih =>
    by_cases h : P (Pv.keyO o) = true
    · rw [List.filter_cons_of_pos (by simp [h]), Pv.sumO, Pv.sumO, ih]
      by_cases e : Pv.keyO o = k
      · rw [e] at h; simp [h]
      · simp only [if_neg e]
        split <;> simp
    · rw [List.filter_cons_of_neg (by simp [h]), ih, Pv.sumO]
      by_cases e : Pv.keyO o = k
      · rw [e] at h; simp [h]
      · simp only [if_neg e]
        split <;> simp
/-- the rows whose number is in the window -/
def wantF (n : Nat) (a b : Int) (l : List Pv.Out) : List Pv.Out := l.filter (fun o => inTop n a b o.2.1)
theorem topped_rows {q : Pv.Qry} {a b : Int} (ha : 0 ≤ a) {t : List Chg} (ht : Pv.TInv t) : Pv.rowsF (qT q a b) t = wantF q.fs.length a b (Pv.rowsF (qN q) t) := by
  have a1 := rows_spec (q := qT q a b) ht
  have a2 := rows_spec (q := qN q) ht
  refine Pv.outs_eq a1.1 (a2.1.filter _) (fun x hx => (a1.2.1 x hx).1) (fun x hx => (a2.2.1 x (List.mem_filter.1 hx).1).1) (fun k => ?_)
  have hf := filtO_sum (fun k => inTop q.fs.length a b k.2) (Pv.rowsF (qN q) t) k
  rw [a1.2.2, cnt_top q a b ha t k]
  show _ = Pv.sumO ((Pv.rowsF (qN q) t).filter (fun o => inTop q.fs.length a b o.2.1)) k
  rw [a2.2.2] at hf
  exact hf.symm
/-- all copies of these out rows -/
def totO (l : List Pv.Out) : Int := (l.map (fun o => o.2.2)).sum
theorem totO_cons (o : Pv.Out) (l : List Pv.Out) : totO (o :: l) = o.2.2 + totO l := by simp [totO]
theorem addO_tot (o : Pv.Key) (n : Int) : ∀ l : List Pv.Out, totO (Pv.addO o n l) = totO l + n
  | [] => by simp [Pv.addO, totO]
  | d :: l => by
    have ih := addO_tot o n l
    rw [Pv.addO]
    split
    · rw [totO_cons, totO_cons, ih]; omega
    · split
      · rw [totO_cons, totO_cons]; simp only []; omega
      · rw [totO_cons, totO_cons]; simp only []; omega
theorem addAll_tot (l : List Pv.Out) : ∀ s : List Pv.Out, totO (Pv.addAll 1 l s) = totO s + totO l := by
  unfold Pv.addAll
  induction l with
  | nil => intro s; simp [totO]
  | cons o l ih =>
    intro s
    rw [List.foldl_cons, ih, addO_tot, totO_cons]; omega
theorem nz_tot : ∀ l : List Pv.Out, totO (l.filter (fun o => !(o.2.2 == 0))) = totO l
  | [] => rfl
  | o :: l => by
    have ih := nz_tot l
    by_cases h : o.2.2 = 0
    · rw [List.filter_cons_of_neg (by simp [h]), ih, totO_cons, h]; omega
    · rw [List.filter_cons_of_pos (by simp [h]), totO_cons, totO_cons, ih]
theorem totO_app (a b : List Pv.Out) : totO (a ++ b) = totO a + totO b := by simp [totO]
theorem shownG_tot {q : Pv.Qry} (hq : q.top < 0) (l : List R3) : ∀ (m : List R3) (i : Nat), totO (Pv.shownG q l i m) = m.length
  | [], _ => rfl
  | x :: m, i => by
    have ht : Pv.topOk q i = true := by simp [Pv.topOk, hq]
    have ih := shownG_tot hq l m (i + 1)
    rw [Pv.shownG, if_pos ht, totO_cons, ih]
    simp; omega
theorem outsP_tot {q : Pv.Qry} (hq : q.top < 0) : ∀ all : List (List R3), totO (Pv.outsP q all) = ((all.map List.length).sum : Nat)
  | [] => rfl
  | l :: all => by
    have ih := outsP_tot hq all
    have e : Pv.outsP q (l :: all) = Pv.shownP q l ++ Pv.outsP q all := rfl
    have e2 : totO (Pv.shownP q l) = l.length := shownG_tot hq l l 1
    rw [e, totO_app, ih, e2, List.map_cons, List.sum_cons]; omega
theorem room_sum (cs : List Nat) (r : R3) (all : List (List R3)) : ((Pv.roomP cs r all).map List.length).sum = (all.map List.length).sum := by
  unfold Pv.roomP
  split <;> simp
theorem lay_sum (ks : List (Nat × Bool)) (cs : List Nat) (all : List (List R3)) (r : R3) (n : Nat) : ((Pv.layN ks cs all r n).map List.length).sum = (all.map List.length).sum + n := by
  have h : Pv.partAt cs r all < (Pv.roomP cs r all).length := by
    have := Pv.partAt_le cs r all
    unfold Pv.roomP
    split <;> simp <;> omega
  rw [← room_sum cs r all]
  unfold Pv.layN
  generalize Pv.roomP cs r all = R at *
  generalize Pv.partAt cs r all = i at *
  have e : R = R.take i ++ R[i] :: R.drop (i + 1) := by rw [← List.drop_eq_getElem_cons h, List.take_append_drop]
  rw [List.modify_eq_take_cons_drop h]
  conv => rhs; rw [e]
  simp only [List.map_append, List.map_cons, List.sum_append, List.sum_cons]
  rw [Pv.insN_len]
  omega
theorem lines_tot (ks : List (Nat × Bool)) (cs : List Nat) : ∀ (t : List Chg) (all : List (List R3)), (∀ c ∈ t, 0 ≤ c.2) → (((t.foldl (fun all c => Pv.layN ks cs all c.1 c.2.toNat) all).map List.length).sum : Int) = ((all.map List.length).sum : Nat) + Pv.totalF t
  | [], all, _ => by simp [Pv.totalF]
  | c :: t, all, h => by
    have hc := h c (by simp)
    rw [List.foldl_cons, lines_tot ks cs t _ (fun d hd => h d (by simp [hd])), lay_sum, Pv.total_cons]
    omega
/-- without top the view has as many copies as the table -/
theorem rows_total {q : Pv.Qry} (hq : q.top < 0) {t : List Chg} (ht : Pv.TInv t) : totO (Pv.rowsF q t) = Pv.totalF t := by
  rw [← Pv.rowsP_eq ht]
  unfold Pv.rowsP
  rw [nz_tot, addAll_tot, outsP_tot hq]
  have := lines_tot q.ks q.cs t [] (fun c hc => by have := ht.pos c hc; omega)
  unfold Pv.linesP
  simp only [totO, List.map_nil, List.sum_nil] at this ⊢
  rw [this]
  omega
end Pk
end Go.Proofs.YtcoofnhdbejnpaaGreatDoor

/- Plain mathematics: a query's text with number behind it, and with top; how many FUNCs a text shows. -/
namespace Go.Proofs.YtcoofnhdbejnpaaGreatDoor
namespace Pk
open Pq (Bytes Tok PS)
/-- a row of tokens behind a text -/
def flat (ks : List Kd) : Bytes := ks.flatMap (fun k => k.psep false ++ k.ptext)
theorem plainOf_flat : ∀ (ks : List Kd) {p : Bytes}, p ≠ [] → plainOf p ks = p ++ flat ks
  | [], p, _ => by simp [plainOf, flat]
  | k :: ks, p, hp => by
    have e2 : p.isEmpty = false := by cases p with | nil => exact absurd rfl hp | cons x p => rfl
    rw [plainOf, e2, plainOf_flat ks (p := p ++ k.psep false ++ k.ptext) (by simp [hp])]
    simp [flat]
theorem flat_app (a b : List Kd) : flat (a ++ b) = flat a ++ flat b := by simp [flat]
theorem flat_cons (k : Kd) (b : List Kd) : flat (k :: b) = k.psep false ++ k.ptext ++ flat b := by simp [flat]
/-- no bracket, no comma, no w -/
def plB (l : Bytes) : Bool := l.all (fun c => c != 40 && (c != 41 && (c != 44 && c != 119)))
/-- no bracket, no w -/
def qB (l : Bytes) : Bool := l.all (fun c => c != 40 && (c != 41 && c != 119))
theorem plB_app (a b : Bytes) : plB (a ++ b) = (plB a && plB b) := by simp [plB]
theorem qB_app (a b : Bytes) : qB (a ++ b) = (qB a && qB b) := by simp [qB]
theorem plB_q {l : Bytes} (h : plB l = true) : qB l = true := by
  unfold plB at h
  unfold qB
  rw [List.all_eq_true] at h ⊢
  intro c hc
  have := h c hc
  simp only [Bool.and_eq_true] at this ⊢
  exact ⟨this.1, this.2.1, this.2.2.2⟩
theorem dig_pl {l : Bytes} (h : ∀ c ∈ l, Pq.isDig c = true) : plB l = true := by
  unfold plB
  rw [List.all_eq_true]
  intro c hc
  have h1 := h c hc
  simp only [bne_iff_ne, Bool.and_eq_true]
  refine ⟨fun e => ?_, fun e => ?_, fun e => ?_, fun e => ?_⟩ <;> (rw [e] at h1; revert h1; decide)
theorem num_pl {k : Nat} (h : k < 100) (b : Bool) : plB (flat [.n k b]) = true := by
  have := dig_pl (numTxt_dig k h).2.2
  rw [flat_cons, plB_app, plB_app]
  have e : (Kd.n k b).ptext = Pq.numTxt k := rfl
  rw [e, this]
  cases b <;> rfl
theorem word_pl {t : Bytes} (h : plB t = true) : plB (flat [.w t]) = true := by
  rw [flat_cons, plB_app, plB_app]
  have e : (Kd.w t).ptext = t := rfl
  rw [e, h]
  rfl
theorem cons_pl {k : Kd} {ks : List Kd} (h : plB (flat [k]) = true) (h2 : plB (flat ks) = true) : plB (flat (k :: ks)) = true := by
  have : flat (k :: ks) = flat [k] ++ flat ks := by rw [← flat_app]; rfl
  rw [this, plB_app, h, h2]; rfl
theorem edge_pl (e : Pq.Edge) (h : GoodEdge e) : plB (flat (kEdge e)) = true := by
  have hn : e.num.toNat < 100 := by have := h.num.1; have := h.num.2; omega
  unfold kEdge
  split
  · decide
  · split
    · decide
    · split
      · decide
      · split
        · exact cons_pl (num_pl hn true) (by decide)
        · exact cons_pl (num_pl hn true) (by decide)
theorem frame_pl (f : Pq.Frame) (h : GoodFrame f) : plB (flat (kFrame f)) = true := by
  induction f, h using GoodFrame_ind with
  | all => decide
  | peers => decide
  | near n h =>
    have e : kFrame ⟨2, n, e0, e0⟩ = [.w Pq.wNear, .n n true] := by simp [kFrame]
    rw [e]
    exact cons_pl (by decide) (num_pl h true)
  | between a b ha hb =>
    have e : kFrame ⟨3, 0, a, b⟩ = kEdge a ++ (.w Pq.wTo :: kEdge b) := by simp [kFrame]
    rw [e, flat_app, plB_app, edge_pl a ha, cons_pl (by decide) (edge_pl b hb)]; rfl
/-- what the counter of values does with a byte: how many brackets are open, how many values there are -/
def scanC (st : Int × Int) (c : UInt8) : Int × Int := if c = 40 then (st.1 + 1, st.2) else if c = 41 then (st.1 - 1, st.2) else if c = 44 ∧ st.1 = 0 then (st.1, st.2 + 1) else st
theorem scan_pl : ∀ {l : Bytes} (_ : plB l = true) (st : Int × Int), l.foldl scanC st = st
  | [], _, _ => rfl
  | c :: l, h, st => by
    unfold plB at h
    rw [List.all_cons] at h
    simp only [Bool.and_eq_true, bne_iff_ne] at h
    rw [List.foldl_cons]
    have e : scanC st c = st := by
      unfold scanC
      rw [if_neg h.1.1, if_neg h.1.2.1, if_neg (fun q => h.1.2.2.1 q.1)]
    rw [e]
    exact scan_pl h.2 st
theorem scan_q : ∀ {l : Bytes} (_ : qB l = true) (n : Int), l.foldl scanC (1, n) = (1, n)
  | [], _, _ => rfl
  | c :: l, h, n => by
    unfold qB at h
    rw [List.all_cons] at h
    simp only [Bool.and_eq_true, bne_iff_ne] at h
    rw [List.foldl_cons]
    have e : scanC (1, n) c = (1, n) := by
      unfold scanC
      rw [if_neg h.1.1, if_neg h.1.2.1, if_neg (fun q => by have := q.2; simp at this)]
    rw [e]
    exact scan_q h.2 n
theorem qB_w {l : Bytes} (h : qB l = true) : (119 : UInt8) ∉ l := fun hm => by
  unfold qB at h
  rw [List.all_eq_true] at h
  have := h 119 hm
  revert this
  decide
/-- the text of a FUNC: nothing is counted in it -/
def FnTxt (l : Bytes) : Prop := (∀ n : Int, l.foldl scanC (0, n) = (0, n)) ∧ (119 : UInt8) ∉ l
theorem FnTxt.plain {l : Bytes} (h : plB l = true) : FnTxt l := ⟨fun _ => scan_pl h _, qB_w (plB_q h)⟩
theorem FnTxt.call {a b : Bytes} (ha : plB a = true) (hb : qB b = true) : FnTxt (a ++ 40 :: (b ++ [41])) := by
  refine ⟨fun n => ?_, fun hm => ?_⟩
  · rw [List.foldl_append, scan_pl ha, List.foldl_cons]
    have e : scanC (0, n) 40 = (1, n) := rfl
    rw [e, List.foldl_append, scan_q hb]
    rfl
  · rcases List.mem_append.1 hm with h | h
    · exact qB_w (plB_q ha) h
    · rcases List.mem_cons.1 h with h | h
      · revert h; decide
      · rcases List.mem_append.1 h with h | h
        · exact qB_w hb h
        · revert h; decide
theorem kind_pl (k : Nat) : plB (flat [.w (Pq.kindTxt k)]) = true := by
  refine word_pl ?_
  unfold Pq.kindTxt
  split <;> decide
theorem col_q (c : Nat) : qB (flat [.g (Pq.colTxt c)]) = true := by
  unfold Pq.colTxt
  split <;> decide
theorem fn_txt (f : Pq.Fn) (h : GoodFn f) : FnTxt (flat (kFn f)) := by
  induction f, h using GoodFn_ind with
  | plain k h =>
    have e : kFn ⟨k, 0, 0, Pq.fr0⟩ = [.w (Pq.kindTxt k)] := by unfold kFn; rw [if_pos h]
    rw [e]
    exact FnTxt.plain (kind_pl k)
  | tile n h h0 =>
    have e : kFn ⟨3, 0, n, Pq.fr0⟩ = [.w (Pq.kindTxt 3), .g [40], .n n false, .g [41]] := by simp [kFn]
    have e2 : flat [.w (Pq.kindTxt 3), .g [40], .n n false, .g [41]] = flat [.w (Pq.kindTxt 3)] ++ 40 :: (flat [.n n false] ++ [41]) := by simp [flat, Kd.psep, Kd.ptext]
    rw [e, e2]
    exact FnTxt.call (kind_pl 3) (plB_q (num_pl h false))
  | lag k c n hk hc h =>
    have e : kFn ⟨k, c, n, Pq.fr0⟩ = [.w (Pq.kindTxt k), .g [40], .g (Pq.colTxt c), .g [44], .n n true, .g [41]] := by
      rcases hk with rfl | rfl <;> simp [kFn]
    have e2 : flat [.w (Pq.kindTxt k), .g [40], .g (Pq.colTxt c), .g [44], .n n true, .g [41]] = flat [.w (Pq.kindTxt k)] ++ 40 :: ((flat [.g (Pq.colTxt c)] ++ ([44] ++ flat [.n n true])) ++ [41]) := by simp [flat, Kd.psep, Kd.ptext]
    rw [e, e2]
    refine FnTxt.call (kind_pl k) ?_
    rw [qB_app, qB_app, col_q, plB_q (num_pl h true)]
    decide
  | over k c f h6 hk hc hf =>
    have e : kFn ⟨k, c, 0, f⟩ = [.w (Pq.kindTxt k), .g [40], .g (Pq.colTxt c), .g [44]] ++ kFrame f ++ [.g [41]] := by
      unfold kFn
      rw [if_neg (by simp only []; omega), if_neg (by simp only []; omega), if_neg (by simp only []; omega)]
    have e2 : flat ([.w (Pq.kindTxt k), .g [40], .g (Pq.colTxt c), .g [44]] ++ kFrame f ++ [.g [41]]) = flat [.w (Pq.kindTxt k)] ++ 40 :: ((flat [.g (Pq.colTxt c)] ++ ([44] ++ flat (kFrame f))) ++ [41]) := by
      rw [flat_app, flat_app]
      simp [flat, Kd.psep, Kd.ptext]
    rw [e, e2]
    refine FnTxt.call (kind_pl k) ?_
    rw [qB_app, qB_app, col_q, plB_q (frame_pl f hf)]
    decide
theorem funs_txt : ∀ (fs : List Pq.Fn), fs ≠ [] → (∀ f ∈ fs, GoodFn f) → (∀ n : Int, (flat (kJoin (fs.map kFn))).foldl scanC (0, n) = (0, n + fs.length - 1)) ∧ (119 : UInt8) ∉ flat (kJoin (fs.map kFn))
  | [], h, _ => absurd rfl h
  | [f], _, h => by
    have := fn_txt f (h f (by simp))
    refine ⟨fun n => ?_, this.2⟩
    show (flat (kFn f)).foldl scanC (0, n) = _
    rw [this.1 n]
    simp
  | f :: g :: r, _, h => by
    have h1 := fn_txt f (h f (by simp))
    have ih := funs_txt (g :: r) (by simp) (fun x hx => h x (by simp at hx ⊢; right; exact hx))
    have e : kJoin ((f :: g :: r).map kFn) = kFn f ++ (.g [44] :: kJoin ((g :: r).map kFn)) := rfl
    have e2 : flat (.g [44] :: kJoin ((g :: r).map kFn)) = 44 :: flat (kJoin ((g :: r).map kFn)) := by rw [flat_cons]; rfl
    rw [e, flat_app, e2]
    refine ⟨fun n => ?_, fun hm => ?_⟩
    · rw [List.foldl_append, h1.1 n, List.foldl_cons]
      have e3 : scanC (0, n) 44 = (0, n + 1) := rfl
      rw [e3, ih.1 (n + 1)]
      simp
      omega
    · rcases List.mem_append.1 hm with q | q
      · exact h1.2 q
      · rcases List.mem_cons.1 q with q | q
        · revert q; decide
        · exact ih.2 q
/-- the text of a query without top, at its show -/
theorem show_split {q : Ast} (hq : GoodAst q) (ht : q.top = none) : ∃ pre post : Bytes, plainOf [] (kQuery q true) = pre ++ ([115, 104, 111, 119] ++ post) ∧ (119 : UInt8) ∉ post ∧ post.foldl scanC (0, 1) = (0, (q.funcs.length : Int)) := by
  have hk : kQuery q true = (kBy q.by' ++ (.w Pq.wOrder :: kJoin (q.keys.map kCol))) ++ (.w Pq.wShow :: kJoin (q.funcs.map kFn)) := by
    unfold kQuery
    rw [ht]
    simp [kTop]
  obtain ⟨h1, h2⟩ := funs_txt q.funcs hq.fne hq.fg
  have hne : plainOf [] (kBy q.by' ++ (.w Pq.wOrder :: kJoin (q.keys.map kCol))) ≠ [] := by
    rw [plainOf_app, plainOf]
    refine pl_ne ?_ _
    simp [Kd.ptext, Pq.wOrder]
  refine ⟨plainOf [] (kBy q.by' ++ (.w Pq.wOrder :: kJoin (q.keys.map kCol))) ++ [32], flat (kJoin (q.funcs.map kFn)), ?_, h2, ?_⟩
  · rw [hk, plainOf_app, plainOf_flat _ hne, flat_cons]
    simp [Kd.psep, Kd.ptext, Pq.wShow]
  · rw [h1 1]
    have : (1 : Int) + q.funcs.length - 1 = q.funcs.length := by omega
    rw [this]
/-- with number behind the FUNCs; with top -/
def astN (q : Ast) : Ast := ⟨q.by', q.keys, q.funcs ++ [fnNum], none⟩
def astT (q : Ast) (a b : Nat) : Ast := ⟨q.by', q.keys, q.funcs ++ [fnNum], some (a, b)⟩
theorem kQuery_N {q : Ast} (hq : GoodAst q) (ht : q.top = none) : kQuery (astN q) true = kQuery q true ++ [.g [44], .w (Pq.kindTxt 0)] := by
  have e : kFn fnNum = [.w (Pq.kindTxt 0)] := rfl
  unfold kQuery
  rw [ht]
  simp only [astN, List.map_append, List.map_cons, List.map_nil]
  rw [kJoin_snoc, if_neg (by simp [hq.fne]), e]
  simp [kTop]
theorem kQuery_T (q : Ast) (a b : Nat) : kQuery (astT q a b) true = kQuery (astN q) true ++ [.w Pq.wTop, .n a true, .w Pq.wFrom, .n b true] := by
  unfold kQuery
  simp [astT, astN, kTop]
theorem astN_good {q : Ast} (h : GoodAst q) (hl : q.funcs.length ≤ 3) : GoodAst (astN q) := by
  refine ⟨h.byN, h.byL, h.keys, by simp [astN], by simp [astN]; omega, fun f hf => ?_, fun a b e => by cases e⟩
  rcases List.mem_append.1 hf with q | q
  · exact h.fg f q
  · rw [List.mem_singleton.1 q]; exact GoodFn.plain 0 (by decide)
theorem astT_good {q : Ast} (h : GoodAst q) (hl : q.funcs.length ≤ 3) {a b : Nat} (ha : a < 100) (hb : b < 100) : GoodAst (astT q a b) := by
  have h2 := astN_good h hl
  exact ⟨h2.byN, h2.byL, h2.keys, h2.fne, h2.fl, h2.fg, fun x y e => by simp [astT] at e; omega⟩
def numW : Bytes := [44, 32, 110, 117, 109, 98, 101, 114]
theorem topped_read {q : Ast} (hq : GoodAst q) (ht : q.top = none) (hf : q.funcs.length ≤ 3) {x : Bytes} (hx : x = plainOf [] (kQuery q true)) (hl : x.length ≤ 261) : (Pq.readE (x ++ numW) = 0 ∧ ∃ n, Pq.endPS (x ++ numW) = astPS (astN q) n true) ∧ ∀ a b : Nat, a < 10 → b < 10 → Pq.readE (x ++ numW ++ [32, 116, 111, 112, 32] ++ Pq.numTxt a ++ [32, 102, 114, 111, 109, 32] ++ Pq.numTxt b) = 0 ∧ ∃ n, Pq.endPS (x ++ numW ++ [32, 116, 111, 112, 32] ++ Pq.numTxt a ++ [32, 102, 114, 111, 109, 32] ++ Pq.numTxt b) = astPS (astT q a b) n true := by
  have hxn : x ≠ [] := by
    rw [hx]
    have e : kQuery q true = kBy q.by' ++ (.w Pq.wOrder :: (kJoin (q.keys.map kCol) ++ (.w Pq.wShow :: (kJoin (q.funcs.map kFn) ++ kTop q.top true)))) := rfl
    rw [e, plainOf_app, plainOf]
    refine pl_ne ?_ _
    simp [Kd.ptext, Pq.wOrder]
  have hN : plainOf [] (kQuery (astN q) true) = x ++ numW := by
    rw [kQuery_N hq ht, plainOf_app, ← hx, plainOf_flat _ hxn]
    rfl
  refine ⟨?_, fun a b ha hb => ?_⟩
  · have h2 := of_wr (astN_good hq hf) (full := true) (canon_wr (kQuery (astN q) true) []) (by rw [hN]; simp [numW]; omega)
    simp only [hN] at h2
    exact h2
  · have hT : plainOf [] (kQuery (astT q a b) true) = x ++ numW ++ [32, 116, 111, 112, 32] ++ Pq.numTxt a ++ [32, 102, 114, 111, 109, 32] ++ Pq.numTxt b := by
      rw [kQuery_T, plainOf_app, hN, plainOf_flat _ (by simp [numW])]
      simp [flat, Kd.psep, Kd.ptext, Pq.wTop, Pq.wFrom]
    have l1 := Pq.numTxt_len a
    have l2 := Pq.numTxt_len b
    have h2 := of_wr (astT_good hq hf (a := a) (b := b) (by omega) (by omega)) (full := true) (canon_wr (kQuery (astT q a b) true) []) (by rw [hT]; simp [numW]; omega)
    simp only [hT] at h2
    exact h2
end Pk
end Go.Proofs.YtcoofnhdbejnpaaGreatDoor

