/- Plain mathematics: a line of known making: its table, its line, what is shown of it. -/
import Derived.Test.YtcoofnhdbejnpaaGreatDoorG05
import Derived.Test.YtcoofnhdbejnpaaGreatDoorG01
namespace Go.Proofs.YtcoofnhdbejnpaaGreatDoor
namespace Pk
open Pv (R3 Chg Cpy Val)
/-- by position: the group, and V -/
abbrev LN := List (Int × Int)
def gAt (L : LN) (i : Nat) : Int := (L.getD i (0, 0)).1
def vAt (L : LN) (i : Nat) : Int := (L.getD i (0, 0)).2
structure LineOk (L : LN) : Prop where
  len : L.length ≤ 30
  bd : ∀ x ∈ L, (0 ≤ x.1 ∧ x.1 ≤ 9) ∧ -9 ≤ x.2 ∧ x.2 ≤ 9
  zero : 0 < L.length → gAt L 0 = 0
  step : ∀ i, i + 1 < L.length → gAt L (i + 1) = gAt L i ∨ gAt L (i + 1) = gAt L i + 1
theorem gAt_eq {L : LN} {i : Nat} (h : i < L.length) : gAt L i = L[i].1 := by simp [gAt, h]
theorem vAt_eq {L : LN} {i : Nat} (h : i < L.length) : vAt L i = L[i].2 := by simp [vAt, h]
theorem LineOk.at {L : LN} (h : LineOk L) {i : Nat} (hi : i < L.length) : (0 ≤ gAt L i ∧ gAt L i ≤ 9) ∧ -9 ≤ vAt L i ∧ vAt L i ≤ 9 := by
  rw [gAt_eq hi, vAt_eq hi]
  exact h.bd _ (List.getElem_mem hi)
theorem LineOk.mono {L : LN} (h : LineOk L) {i : Nat} : ∀ {j : Nat}, i ≤ j → j < L.length → gAt L i ≤ gAt L j
  | 0, hij, _ => by rw [show i = 0 by omega]; exact Int.le_refl _
  | j + 1, hij, hj => by
    rcases Nat.lt_or_ge i (j + 1) with q | q
    · have ih := h.mono (i := i) (j := j) (by omega) (by omega)
      have := h.step j hj
      omega
    · rw [show i = j + 1 by omega]; exact Int.le_refl _
theorem LineOk.nil : LineOk [] := ⟨by simp, fun _ h => by simp at h, fun h => by simp at h, fun i h => by simp at h⟩
theorem gAt_snoc (L : LN) (x : Int × Int) (i : Nat) (h : i < L.length) : gAt (L ++ [x]) i = gAt L i := by
  unfold gAt
  rw [List.getD_eq_getElem?_getD, List.getD_eq_getElem?_getD, List.getElem?_append_left h]
theorem gAt_last (L : LN) (x : Int × Int) : gAt (L ++ [x]) L.length = x.1 := by simp [gAt]
/-- one more, in the last group or a new one -/
theorem LineOk.snoc {L : LN} (h : LineOk L) {g v : Int} (hl : L.length < 30) (hg : 0 ≤ g) (hg2 : g ≤ 9) (hv : -9 ≤ v) (hv2 : v ≤ 9) (h0 : L.length = 0 → g = 0) (hs : ∀ i, i + 1 = L.length → g = gAt L i ∨ g = gAt L i + 1) : LineOk (L ++ [(g, v)]) := by
  refine ⟨by simp; omega, fun x hx => ?_, fun _ => ?_, fun i hi => ?_⟩
  · rcases List.mem_append.1 hx with q | q
    · exact h.bd x q
    · rw [List.mem_singleton.1 q]; exact ⟨⟨hg, hg2⟩, hv, hv2⟩
  · rcases Nat.eq_zero_or_pos L.length with q | q
    · have := gAt_last L (g, v)
      rw [q] at this
      rw [this]
      exact h0 q
    · rw [gAt_snoc _ _ _ q]; exact h.zero q
  · simp at hi
    rcases Nat.lt_or_ge (i + 1) L.length with q | q
    · rw [gAt_snoc _ _ _ q, gAt_snoc _ _ _ (by omega)]; exact h.step i q
    · have e : i + 1 = L.length := by omega
      have := gAt_last L (g, v)
      rw [← e] at this
      rw [this, gAt_snoc _ _ _ (by omega)]
      exact hs i e
def kOf (d : Bool) (g : Int) : Int := if d then -(10 * g) else 10 * g
def rowK (d : Bool) (L : LN) (i : Nat) : R3 := ((i : Int) + 1, kOf d (gAt L i), vAt L i)
def tabK (d : Bool) (L : LN) : List Chg := (List.range L.length).map (fun i => (rowK d L i, 1))
theorem tabK_len (d : Bool) (L : LN) : (tabK d L).length = L.length := by simp [tabK]
theorem rowK_lower (d : Bool) (L : LN) {i j : Nat} (h : i < j) : Pv.lower (rowK d L i) (rowK d L j) = true := by
  rw [Pv.lower_iff]; left; show (i : Int) + 1 < (j : Int) + 1; omega
theorem rowK_inj {d : Bool} {L : LN} {i j : Nat} (h : rowK d L i = rowK d L j) : i = j := by
  have : (i : Int) + 1 = (j : Int) + 1 := congrArg Prod.fst h
  omega
theorem tabK_is (d : Bool) (L : LN) : Pv.IsTable (tabK d L) := by
  refine ⟨?_, fun c hc => ?_⟩
  · unfold tabK
    rw [List.pairwise_map]
    exact List.pairwise_lt_range.imp (fun {i j} h => rowK_lower d L h)
  · obtain ⟨i, _, rfl⟩ := List.mem_map.1 hc
    show (1 : Int) ≠ 0
    decide
theorem sumOf_rev (r : R3) : ∀ l : List Chg, Pv.sumOf l.reverse r = Pv.sumOf l r
  | [] => rfl
  | c :: l => by
    rw [List.reverse_cons, Pv.sumOf_app, sumOf_rev r l]
    simp only [Pv.sumOf]
    omega
theorem tab_next (d : Bool) (L : LN) : Pv.tableF [] (tabK d L).reverse = tabK d L := by
  refine Pv.IsTable.ext (Pv.tableF_is _ _) (tabK_is d L) (fun r => ?_)
  rw [Pv.tableF_sum, sumOf_rev]
  simp [Pv.sumOf]
theorem scan_all : ∀ (l : List Chg) (i : Nat), (∀ c ∈ l, Pv.rowOk c.1 = true ∧ Pv.cntOk c.2 = true) → Pv.scanF i l = none
  | [], _, _ => rfl
  | c :: l, i, h => by
    rw [Pv.scanF, if_neg (by rw [(h c (by simp)).1]; exact Bool.noConfusion), if_neg (by rw [(h c (by simp)).2]; exact Bool.noConfusion)]
    exact scan_all l (i + 1) (fun d hd => h d (by simp [hd]))
theorem less_nn {t : List Chg} (ht : ∀ c ∈ t, 0 ≤ c.2) : ∀ (l : List Chg) (i : Nat), Pv.lessF t i l = none
  | [], _ => rfl
  | c :: l, i => by
    rw [Pv.lessF, if_neg (fun h => ?_)]
    · exact less_nn ht l (i + 1)
    · obtain ⟨d, hd, h2⟩ := List.any_eq_true.1 h
      simp only [Bool.and_eq_true, decide_eq_true_eq] at h2
      have := ht d hd
      omega
theorem tabK_tot (d : Bool) (L : LN) : Pv.totalF (tabK d L) = L.length := by
  have : ∀ n : Nat, (((List.range n).map (fun i => (rowK d L i, (1 : Int)))).map (·.2)).sum = (n : Int) := by
    intro n
    induction n with
    | zero => rfl
    | succ n ih => rw [List.range_succ, List.map_append, List.map_append, List.sum_append, ih]; simp
  exact this L.length
theorem tabK_ok {d : Bool} {L : LN} (h : LineOk L) : ∀ c ∈ tabK d L, Pv.rowOk c.1 = true ∧ Pv.cntOk c.2 = true := fun c hc => by
  obtain ⟨i, hi, rfl⟩ := List.mem_map.1 hc
  have hi' := List.mem_range.1 hi
  have hb := h.at hi'
  have hl := h.len
  refine ⟨?_, by show Pv.cntOk 1 = true; decide⟩
  have hk : -1000 ≤ kOf d (gAt L i) ∧ kOf d (gAt L i) ≤ 1000 := by unfold kOf; cases d <;> simp <;> omega
  show Pv.rowOk ((i : Int) + 1, kOf d (gAt L i), vAt L i) = true
  simp only [Pv.rowOk, Pv.between, Bool.and_eq_true, decide_eq_true_eq]
  omega
theorem tab_fine {d : Bool} {L : LN} (h : LineOk L) : Pv.refusedF [] (tabK d L).reverse = (0, 0) := by
  have hl := h.len
  rw [Pv.refused_end (by simp [tabK_len]; omega) (scan_all _ _ (fun c hc => tabK_ok h c (List.mem_reverse.1 hc)))]
  · rw [tab_next, tabK_tot, if_neg (by omega)]
  · rw [tab_next]
    refine less_nn (fun c hc => ?_) _ _
    obtain ⟨i, _, rfl⟩ := List.mem_map.1 hc
    show (0 : Int) ≤ 1
    decide
/-- the line -/
def lineL (d : Bool) (L : LN) : List Cpy := (List.range L.length).map (fun i => (rowK d L i, 0))
theorem lineL_len (d : Bool) (L : LN) : (lineL d L).length = L.length := by simp [lineL]
theorem lineL_get (d : Bool) (L : LN) {i : Nat} (h : i < L.length) : (lineL d L)[i]? = some (rowK d L i, 0) := by simp [lineL, h]
theorem before_g (d : Bool) (L : LN) (i j : Nat) : Pv.beforeK [(1, d)] (rowK d L i) (rowK d L j) = decide (gAt L i < gAt L j) := by
  rw [Bool.eq_iff_iff, Pv.bK_cons, decide_eq_true_eq]
  have e : ∀ k, Pv.colV 1 (rowK d L k) = kOf d (gAt L k) := fun _ => rfl
  rw [e, e]
  unfold kOf
  cases d <;> simp [Pv.beforeK] <;> omega
theorem lineL_ahead {d : Bool} {L : LN} (h : LineOk L) {i j : Nat} (hij : i < j) (hj : j < L.length) : Pv.aheadF [(1, d)] (rowK d L i, 0) (rowK d L j, 0) = true := by
  rw [Pv.ahead_iff]
  have hm := h.mono (Nat.le_of_lt hij) hj
  rcases (show gAt L i < gAt L j ∨ gAt L j ≤ gAt L i by omega) with q | q
  · left; rw [before_g]; simpa using q
  · right
    refine ⟨fun k hk => ?_, .inl (rowK_lower d L hij)⟩
    rw [List.mem_singleton.1 hk]
    show kOf d (gAt L i) = kOf d (gAt L j)
    rw [show gAt L i = gAt L j by omega]
theorem line_eq {d : Bool} {L : LN} (h : LineOk L) (r : R3) : Pv.lineF [(1, d)] [] (tabK d L) r = lineL d L := by
  obtain ⟨h1, h2, h3⟩ := Pv.line_spec [(1, d)] (cs := []) (tabK_is d L) r
  refine Pv.sorted_eq (lt := Pv.aheadF [(1, d)]) (fun x _ => Pv.ahead_irr _ x) (fun x _ y _ q => ?_) ?_ ?_ (fun x => ?_)
  · rw [Bool.eq_false_iff]; intro q2
    have := Pv.ahead_tr q q2
    rw [Pv.ahead_irr] at this; cases this
  · rw [List.pairwise_iff_getElem]
    intro i j hi hj hij
    exact h3 i j _ _ (List.getElem?_eq_getElem hi) (List.getElem?_eq_getElem hj) hij
  · unfold lineL
    rw [List.pairwise_map]
    rw [List.pairwise_iff_getElem]
    intro i j hi hj hij
    simp at hi hj ⊢
    exact lineL_ahead h hij hj
  · rw [h2, Pv.copies_mem]
    unfold tabK lineL
    constructor
    · rintro ⟨c, hc, _, e1, e2⟩
      obtain ⟨i, hi, rfl⟩ := List.mem_map.1 hc
      have e3 : x.2 < 1 := e2
      exact List.mem_map.2 ⟨i, hi, Prod.ext e1.symm (show 0 = x.2 by omega)⟩
    · intro hx
      obtain ⟨i, hi, rfl⟩ := List.mem_map.1 hx
      exact ⟨_, List.mem_map.2 ⟨i, hi, rfl⟩, rfl, rfl, by show 0 < 1; decide⟩
theorem rowShown_none (q : Pv.Qry) (l : List Cpy) (r : R3) (s : Int) : ∀ (m : List Cpy) (i : Nat) (out : List Pv.Out), (∀ x ∈ m, x.1 ≠ r) → Pv.rowShown q l r s i m out = out
  | [], _, _, _ => rfl
  | x :: m, i, out, h => by
    have hx : decide (x.1 = r) = false := by simp; exact h x (by simp)
    rw [Pv.rowShown, hx]
    exact rowShown_none q l r s m (i + 1) out (fun y hy => h y (by simp [hy]))
theorem rowShown_one {q : Pv.Qry} (hq : q.top < 0) (l : List Cpy) (r : R3) (s : Int) (x : Cpy) (hx : x.1 = r) (b : List Cpy) (hb : ∀ y ∈ b, y.1 ≠ r) : ∀ (a : List Cpy) (i : Nat) (out : List Pv.Out), (∀ y ∈ a, y.1 ≠ r) → Pv.rowShown q l r s i (a ++ x :: b) out = Pv.countedF out (r, q.fs.map (fun f => Pv.valueF q.ks l f (i + a.length))) s
  | [], i, out, _ => by
    have ht : Pv.topOk q i = true := by simp [Pv.topOk, hq]
    rw [List.nil_append, Pv.rowShown, ht, hx]
    simp only [decide_true, Bool.and_self, if_true]
    rw [rowShown_none q l r s b _ _ hb]
    rfl
  | y :: a, i, out, h => by
    have hy : decide (y.1 = r) = false := by simp; exact h y (by simp)
    rw [List.cons_append, Pv.rowShown, hy]
    have := rowShown_one hq l r s x hx b hb a (i + 1) out (fun z hz => h z (by simp [hz]))
    simp only [Bool.false_and, Bool.false_eq_true, if_false]
    rw [this]
    have e : i + 1 + a.length = i + (y :: a).length := by simp; omega
    rw [e]
def outK (q : Pv.Qry) (d : Bool) (L : LN) (i : Nat) : Pv.Out := (rowK d L i, q.fs.map (fun f => Pv.valueF q.ks (lineL d L) f (i + 1)), 1)
def outsK (q : Pv.Qry) (d : Bool) (L : LN) : List Pv.Out := (List.range L.length).map (outK q d L)
theorem line_split (d : Bool) (L : LN) {j : Nat} (hj : j < L.length) : ∃ a b, lineL d L = a ++ (rowK d L j, 0) :: b ∧ a.length = j ∧ (∀ y ∈ a, y.1 ≠ rowK d L j) ∧ ∀ y ∈ b, y.1 ≠ rowK d L j := by
  refine ⟨(lineL d L).take j, (lineL d L).drop (j + 1), ?_, by simp [lineL_len]; omega, fun y hy e => ?_, fun y hy e => ?_⟩
  · have hl : j < (lineL d L).length := by rw [lineL_len]; exact hj
    have h1 := List.drop_eq_getElem_cons hl
    have h2 : (lineL d L)[j] = (rowK d L j, 0) := by
      have := lineL_get d L hj
      rw [List.getElem?_eq_getElem hl] at this
      exact Option.some.inj this
    rw [h2] at h1
    rw [← h1, List.take_append_drop]
  · obtain ⟨i, hi, e2⟩ := List.getElem_of_mem hy
    simp [lineL] at hi e2
    subst e2
    have := rowK_inj e
    omega
  · obtain ⟨i, hi, e2⟩ := List.getElem_of_mem hy
    simp [lineL] at hi e2
    subst e2
    have := rowK_inj e
    omega
theorem shown_known {q : Pv.Qry} {d : Bool} {L : LN} (h : LineOk L) (hq : q.top < 0) (hc : q.cs = []) (hk : q.ks = [(1, d)]) : Pv.shownF q (tabK d L) 1 [] = outsK q d L := by
  have key : ∀ j, j ≤ L.length → (List.range j).foldl (fun out i => Pv.rowShown q (lineL d L) (rowK d L i) 1 1 (lineL d L) out) [] = (List.range j).map (outK q d L) := by
    intro j
    induction j with
    | zero => intro _; rfl
    | succ j ih =>
      intro hj
      rw [List.range_succ, List.foldl_append, ih (by omega), List.map_append]
      simp only [List.foldl_cons, List.foldl_nil]
      obtain ⟨a, b, e, hl, ha, hb⟩ := line_split d L (j := j) (by omega)
      have h1 := rowShown_one hq (lineL d L) (rowK d L j) 1 (rowK d L j, 0) rfl b hb a 1 ((List.range j).map (outK q d L)) ha
      rw [← e, hl, Nat.add_comm 1 j] at h1
      rw [h1, Pv.countedF, if_neg (fun hany => ?_)]
      · rfl
      · obtain ⟨x, hx, h2⟩ := List.any_eq_true.1 hany
        obtain ⟨i, hi, rfl⟩ := List.mem_map.1 hx
        simp only [Bool.and_eq_true, decide_eq_true_eq] at h2
        have := rowK_inj (show rowK d L i = rowK d L j from h2.1)
        have := List.mem_range.1 hi
        omega
  have := key L.length (Nat.le_refl _)
  unfold Pv.shownF
  rw [hc, hk]
  have e : ∀ c : Chg, Pv.lineF [(1, d)] [] (tabK d L) c.1 = lineL d L := fun c => line_eq h c.1
  simp only [e]
  unfold tabK
  rw [List.foldl_map]
  exact this
theorem outsK_srt (q : Pv.Qry) (d : Bool) (L : LN) : Pv.SrtO (outsK q d L) := by
  unfold Pv.SrtO outsK
  rw [List.pairwise_map]
  refine List.pairwise_lt_range.imp (fun {i j} h => ?_)
  rw [Pv.lowO_iff]
  exact .inl (rowK_lower d L h)
theorem list_known {q : Pv.Qry} {d : Bool} {L : LN} (h : LineOk L) (hq : q.top < 0) (hc : q.cs = []) (hk : q.ks = [(1, d)]) : Pv.listF (outsK q d L) = outsK q d L := by
  obtain ⟨m, hf⟩ := Pv.shownF_fit (q := q) (t := tabK d L) (sign := 1) (by decide) (by decide) (Pv.Fit.nil q.fs.length)
  rw [shown_known h hq hc hk] at hf
  obtain ⟨h1, h2, h3⟩ := Pv.listF_spec hf
  refine Pv.outs_eq h1 (outsK_srt q d L) (fun x hx => (h2 x hx).1) (fun x hx => ?_) h3
  obtain ⟨i, _, rfl⟩ := List.mem_map.1 hx
  show (1 : Int) ≠ 0
  decide
theorem rows_known {q : Pv.Qry} {d : Bool} {L : LN} (h : LineOk L) (hq : q.top < 0) (hc : q.cs = []) (hk : q.ks = [(1, d)]) : Pv.rowsF q (tabK d L) = outsK q d L := by
  unfold Pv.rowsF
  rw [shown_known h hq hc hk, list_known h hq hc hk]
theorem told_known {q : Pv.Qry} {d : Bool} {L : LN} (h : LineOk L) (hq : q.top < 0) (hc : q.cs = []) (hk : q.ks = [(1, d)]) : Pv.appliedF q [] (tabK d L).reverse = outsK q d L := by
  unfold Pv.appliedF
  rw [tab_fine h, if_pos rfl, tab_next, shown_known h hq hc hk]
  exact list_known h hq hc hk
end Pk
end Go.Proofs.YtcoofnhdbejnpaaGreatDoor

/- Plain mathematics: the tokens of a text that is written token by token. -/
namespace Go.Proofs.YtcoofnhdbejnpaaGreatDoor
namespace Pq
/-- what a token may be -/
def Tk (t : Bytes) : Prop := ∀ M : Bytes → Prop, (∀ (c : UInt8), isSgn c = true → M [c]) → (∀ (t : Bytes), t ≠ [] → t.length ≤ 2 → (∀ c ∈ t, isDig c = true) → M t) → (∀ (t : Bytes), t ≠ [] → t.length ≤ 8 → (∀ c ∈ t, isLet c = true) → M t) → M t
theorem Tk.sign (c : UInt8) (h : isSgn c = true) : Tk [c] := fun _ r0 _ _ => r0 c h
theorem Tk.digits (t : Bytes) (h0 : t ≠ []) (h2 : t.length ≤ 2) (h : ∀ c ∈ t, isDig c = true) : Tk t := fun _ _ r1 _ => r1 t h0 h2 h
theorem Tk.word (t : Bytes) (h0 : t ≠ []) (h8 : t.length ≤ 8) (h : ∀ c ∈ t, isLet c = true) : Tk t := fun _ _ _ r2 => r2 t h0 h8 h
theorem Tk_ind {motive : (t : Bytes) → Tk t → Prop} (sign : ∀ (c : UInt8) (h : isSgn c = true), motive [c] (Tk.sign c h)) (digits : ∀ (t : Bytes) (h0 : t ≠ []) (h2 : t.length ≤ 2) (h : ∀ c ∈ t, isDig c = true), motive t (Tk.digits t h0 h2 h)) (word : ∀ (t : Bytes) (h0 : t ≠ []) (h8 : t.length ≤ 8) (h : ∀ c ∈ t, isLet c = true), motive t (Tk.word t h0 h8 h)) (t : Bytes) (h : Tk t) : motive t h := by
  obtain ⟨_, q⟩ := h (fun t => ∃ h : Tk t, motive t h) (fun c h => ⟨_, sign c h⟩) (fun t h0 h2 h => ⟨_, digits t h0 h2 h⟩) (fun t h0 h8 h => ⟨_, word t h0 h8 h⟩)
  exact q
/-- a byte that ends every row -/
def isOther (c : UInt8) : Prop := isDig c = false ∧ isLet c = false
/-- what stands behind the token t does not go on with it -/
def Ends (t rest : Bytes) : Prop := (∃ c, t = [c] ∧ isSgn c = true) ∨ ∀ c r, rest = c :: r → isOther c
theorem drop_at (p : Bytes) (x : Bytes) : (p ++ x).drop p.length = x := by simp
theorem get_at (p : Bytes) (c : UInt8) (x : Bytes) (h : p.length < (p ++ c :: x).length) : (p ++ c :: x)[p.length]'h = c := by
  rw [List.getElem_append_right (Nat.le_refl _)]; simp
theorem sgn_blk {c : UInt8} (h : isSgn c = true) : isBlk c = false := by
  simp only [isSgn, isBlk, Bool.or_eq_true, beq_iff_eq, Bool.or_eq_false_iff, beq_eq_false_iff_ne] at *; omega
theorem dig_blk {c : UInt8} (h : isDig c = true) : isBlk c = false := by
  simp only [isDig, isBlk, Bool.and_eq_true, decide_eq_true_eq, Bool.or_eq_false_iff, beq_eq_false_iff_ne] at *; omega
theorem let_blk {c : UInt8} (h : isLet c = true) : isBlk c = false := by
  simp only [isLet, isBlk, Bool.and_eq_true, decide_eq_true_eq, Bool.or_eq_false_iff, beq_eq_false_iff_ne] at *; omega
theorem let_sgn {c : UInt8} (h : isLet c = true) : isSgn c = false := by
  simp only [isLet, isSgn, Bool.and_eq_true, decide_eq_true_eq, Bool.or_eq_false_iff, beq_eq_false_iff_ne] at *; omega
theorem let_dig {c : UInt8} (h : isLet c = true) : isDig c = false := by
  simp only [isLet, isDig, Bool.and_eq_true, decide_eq_true_eq, Bool.and_eq_false_iff, decide_eq_false_iff_not] at *; omega
theorem sgn_dig {c : UInt8} (h : isSgn c = true) : isDig c = false := by
  simp only [isSgn, isDig, Bool.or_eq_true, beq_iff_eq, Bool.and_eq_false_iff, decide_eq_false_iff_not] at *; omega
theorem blk_other {c : UInt8} (h : isBlk c = true) : isOther c := by
  simp only [isOther, isBlk, isDig, isLet, Bool.or_eq_true, beq_iff_eq, Bool.and_eq_false_iff, decide_eq_false_iff_not] at *; omega
theorem sgn_other {c : UInt8} (h : isSgn c = true) : isOther c := by
  simp only [isOther, isSgn, isDig, isLet, Bool.or_eq_true, beq_iff_eq, Bool.and_eq_false_iff, decide_eq_false_iff_not] at *; omega
theorem takeWhile_row {q : UInt8 → Bool} : ∀ (t rest : Bytes), (∀ c ∈ t, q c = true) → (∀ c r, rest = c :: r → q c = false) → (t ++ rest).takeWhile q = t
  | [], [], _, _ => rfl
  | [], c :: r, _, h => by simp [h c r rfl]
  | a :: t, rest, h1, h2 => by
    have ih := takeWhile_row t rest (fun c hc => h1 c (by simp [hc])) h2
    simp [h1 a (by simp), ih]
theorem rowEnd_row {q : UInt8 → Bool} (p t rest : Bytes) (h1 : ∀ c ∈ t, q c = true) (h2 : ∀ c r, rest = c :: r → q c = false) : rowEnd q (p ++ (t ++ rest)) p.length = p.length + t.length := by
  unfold rowEnd; rw [drop_at, takeWhile_row t rest h1 h2]
theorem tokEnd_tk {p t rest : Bytes} (ht : Tk t) (he : Ends t rest) : tokEnd (p ++ (t ++ rest)) p.length = p.length + t.length := by
  induction t, ht using Tk_ind with
  | sign c h =>
    have hl : p.length < (p ++ ([c] ++ rest)).length := by simp
    unfold tokEnd
    rw [dif_pos hl]
    have e : (p ++ ([c] ++ rest))[p.length]'hl = c := get_at p c rest hl
    rw [e, if_pos h]; rfl
  | digits t h0 h2 h =>
    obtain ⟨a, t', rfl⟩ := List.exists_cons_of_ne_nil h0
    have ha := h a (by simp)
    have hl : p.length < (p ++ (a :: t' ++ rest)).length := by simp
    have e : (p ++ (a :: t' ++ rest))[p.length]'hl = a := get_at p a (t' ++ rest) hl
    have hr : ∀ c r, rest = c :: r → isDig c = false := by
      rcases he with ⟨c, hc, hs⟩ | he
      · have : a = c := by simpa using congrArg (fun l => l.head?) hc
        subst this; rw [sgn_dig hs] at ha; cases ha
      · exact fun c r hr => (he c r hr).1
    have hre := rowEnd_row (q := isDig) p (a :: t') rest h hr
    unfold tokEnd
    rw [dif_pos hl, e, isSgn_not_dig ha, hre]
    simp only [Bool.false_eq_true, if_false, ha, if_true]
    rw [if_neg (by omega)]
  | word t h0 h8 h =>
    obtain ⟨a, t', rfl⟩ := List.exists_cons_of_ne_nil h0
    have ha := h a (by simp)
    have hl : p.length < (p ++ (a :: t' ++ rest)).length := by simp
    have e : (p ++ (a :: t' ++ rest))[p.length]'hl = a := get_at p a (t' ++ rest) hl
    have hr : ∀ c r, rest = c :: r → isLet c = false := by
      rcases he with ⟨c, hc, hs⟩ | he
      · have : a = c := by simpa using congrArg (fun l => l.head?) hc
        subst this; rw [let_sgn ha] at hs; cases hs
      · exact fun c r hr => (he c r hr).2
    have hre := rowEnd_row (q := isLet) p (a :: t') rest h hr
    unfold tokEnd
    rw [dif_pos hl, e, let_sgn ha, hre]
    simp only [Bool.false_eq_true, if_false, ha, if_true, let_dig ha]
    rw [if_neg (by omega)]
theorem tk_blk {t : Bytes} (ht : Tk t) : ∃ a t', t = a :: t' ∧ isBlk a = false := by
  induction t, ht using Tk_ind with
  | sign c h => exact ⟨c, [], rfl, sgn_blk h⟩
  | digits t h0 h2 h => obtain ⟨a, t', rfl⟩ := List.exists_cons_of_ne_nil h0; exact ⟨a, t', rfl, dig_blk (h a (by simp))⟩
  | word t h0 h8 h => obtain ⟨a, t', rfl⟩ := List.exists_cons_of_ne_nil h0; exact ⟨a, t', rfl, let_blk (h a (by simp))⟩
/-- a text as it is written: blanks, a token, and so on -/
def flat : List (Bytes × Bytes) → Bytes
  | [] => []
  | (s, t) :: r => s ++ (t ++ flat r)
/-- blanks are blanks, tokens are tokens, and none runs on into the next -/
def Wrote : List (Bytes × Bytes) → Prop
  | [] => True
  | (s, t) :: r => (∀ c ∈ s, isBlk c = true) ∧ Tk t ∧ Ends t (flat r) ∧ Wrote r
def headDig (t : Bytes) : Bool := match t with | c :: _ => isDig c | [] => false
theorem lex_blanks : ∀ (s p x : Bytes), (∀ c ∈ s, isBlk c = true) → lexFrom (p ++ (s ++ x)) p.length = lexFrom (p ++ (s ++ x)) (p ++ s).length
  | [], p, x, _ => by simp
  | a :: s, p, x, h => by
    have hl : p.length < (p ++ (a :: s ++ x)).length := by simp
    have e : (p ++ (a :: s ++ x))[p.length]'hl = a := get_at p a (s ++ x) hl
    rw [lexFrom_blk hl (by rw [e]; exact h a (by simp))]
    have ih := lex_blanks s (p ++ [a]) x (fun c hc => h c (by simp [hc]))
    have e2 : p ++ (a :: s ++ x) = p ++ [a] ++ (s ++ x) := by simp
    have e3 : p.length + 1 = (p ++ [a]).length := by simp
    have e4 : p ++ a :: s = p ++ [a] ++ s := by simp
    rw [e2, e3, e4]; exact ih
theorem lex_flat : ∀ (I : List (Bytes × Bytes)) (p : Bytes), Wrote I →
    (lexFrom (p ++ flat I) p.length).2 = -1 ∧ (lexFrom (p ++ flat I) p.length).1.map (fun t => (t.text, t.num)) = I.map (fun i => (i.2, headDig i.2))
  | [], p, _ => by
    rw [lexFrom_end (by simp [flat])]; simp
  | (s, t) :: r, p, h => by
    obtain ⟨hs, ht, he, hr⟩ := h
    obtain ⟨a, t', hta, hab⟩ := tk_blk ht
    simp only [flat]
    rw [lex_blanks s p _ hs]
    have hl : (p ++ s).length < (p ++ s ++ (t ++ flat r)).length := by simp [hta]
    have e0 : p ++ (s ++ (t ++ flat r)) = p ++ s ++ (t ++ flat r) := by simp
    have e : (p ++ s ++ (t ++ flat r))[(p ++ s).length]'hl = a := by
      have := get_at (p ++ s) a (t' ++ flat r) (by simp)
      simp only [hta]
      exact this
    have htk := tokEnd_tk (p := p ++ s) ht he
    have htl : 0 < t.length := by simp [hta]
    rw [e0]
    rw [lexFrom_tok hl (by rw [e]; exact hab) (by rw [htk]; omega)]
    have ih := lex_flat r (p ++ s ++ t) hr
    have e1 : p ++ s ++ (t ++ flat r) = p ++ s ++ t ++ flat r := by simp
    have e2 : (p ++ s).length + t.length = (p ++ s ++ t).length := (List.length_append (as := p ++ s) (bs := t)).symm
    rw [htk]
    rw [e2]
    have e3 : ((p ++ s ++ (t ++ flat r)).take (p ++ s ++ t).length).drop (p ++ s).length = t := by
      rw [e1, List.take_left' rfl]; exact drop_at (p ++ s) t
    refine ⟨?_, ?_⟩
    · simp only [e1]; exact ih.1
    · simp only [List.map_cons, e3, e]
      rw [e1, ih.2, hta]; rfl
end Pq
end Go.Proofs.YtcoofnhdbejnpaaGreatDoor

/- Plain functions: the queries that are written out of raw bytes. -/
namespace Go.Proofs.YtcoofnhdbejnpaaGreatDoor
namespace Pk
open Pq (Bytes)
structure TS where
  a : Nat
  raw : Bytes
  plain : Bytes
def nxt (l : Bytes) (a n : Nat) : Nat := if h : a < l.length then l[a].toNat % n else 0
def adv (l : Bytes) (a : Nat) : Nat := if a < l.length then a + 1 else a
def pre (x : TS) : Bytes := if x.plain = [] then [] else [32]
def wordS (l : Bytes) (t : Bytes) (x : TS) : TS := ⟨adv l x.a, x.raw ++ pre x ++ (if nxt l x.a 6 = 1 then [10, 32] else []) ++ t, x.plain ++ pre x ++ t⟩
def blankB (b : Bool) : Bytes := if b then [32] else []
def nought (l : Bytes) (n : Nat) (x : TS) : Bytes := if n < 10 ∧ nxt l x.a 3 = 1 then [48] else []
def numberS (l : Bytes) (n : Nat) (b : Bool) (x : TS) : TS := ⟨if n < 10 then adv l x.a else x.a, x.raw ++ blankB b ++ nought l n x ++ Pq.numTxt n, x.plain ++ blankB b ++ Pq.numTxt n⟩
theorem nxt_lt (l : Bytes) (a n : Nat) (h : 0 < n) : nxt l a n < n := by
  unfold nxt; split
  · exact Nat.mod_lt _ h
  · exact h
end Pk
end Go.Proofs.YtcoofnhdbejnpaaGreatDoor

/- Plain functions: how long the texts become. -/
namespace Go.Proofs.YtcoofnhdbejnpaaGreatDoor
namespace Pk
open Pq (Bytes)
def Ln (n : Nat) (x : TS) : Prop := x.raw.length ≤ n ∧ x.plain.length ≤ n
theorem Ln.mono {n m : Nat} {x : TS} (h : Ln n x) (hm : n ≤ m) : Ln m x := ⟨Nat.le_trans h.1 hm, Nat.le_trans h.2 hm⟩
theorem Ln.word {n : Nat} {x : TS} (h : Ln n x) (l t : Bytes) {k : Nat} (ht : t.length ≤ k) : Ln (n + (k + 3)) (wordS l t x) := by
  have h1 := h.1; have h2 := h.2
  have hp : (pre x).length ≤ 1 := by unfold pre; split <;> simp
  have hq : (if nxt l x.a 6 = 1 then ([10, 32] : Bytes) else []).length ≤ 2 := by split <;> simp
  constructor <;> simp only [wordS, List.length_append] <;> omega
theorem numTxt_small {k : Nat} (h : k < 10) : (Pq.numTxt (k : Int)).length = 1 := by unfold Pq.numTxt; rw [if_pos (by omega)]; rfl
theorem Ln.number {n : Nat} {x : TS} (h : Ln n x) (l : Bytes) (k : Nat) (b : Bool) : Ln (n + 3) (numberS l k b x) := by
  have h1 := h.1; have h2 := h.2
  have hb : (blankB b).length ≤ 1 := by unfold blankB; split <;> simp
  have hq := Pq.numTxt_len (k : Int)
  by_cases hk : k < 10
  · have hn : (nought l k x).length ≤ 1 := by unfold nought; split <;> simp
    have := numTxt_small hk
    constructor <;> simp only [numberS, List.length_append] <;> omega
  · have hn : nought l k x = [] := by unfold nought; rw [if_neg (by omega)]
    constructor <;> simp only [numberS, List.length_append, hn, List.length_nil] <;> omega
end Pk
end Go.Proofs.YtcoofnhdbejnpaaGreatDoor

