/- Plain mathematics: what the FUNCs are worth over a line of known making. -/
import Derived.Test.YtcoofnhdbejnpaaGreatDoorG06
import Derived.Test.YtcoofnhdbejnpaaGreatDoorG08
namespace Go.Proofs.YtcoofnhdbejnpaaGreatDoor
namespace Pk
open Pv (R3 Chg Cpy Val)
/-- a frame of known making -/
structure Fx where
  kind : Nat
  a : Nat
  b : Nat
def inK (L : LN) (x : Fx) (i k : Nat) : Bool :=
  if x.kind = 0 then true
  else if x.kind = 1 then decide (gAt L k - gAt L i ≤ 0)
  else if x.kind = 2 then decide (gAt L k - gAt L i ≤ x.a) && decide (-(gAt L k - gAt L i) ≤ x.a)
  else if x.kind = 3 then decide ((i : Int) - x.a ≤ k) && decide ((k : Int) ≤ i + x.b)
  else decide ((i : Int) + x.a ≤ k) && decide ((k : Int) ≤ i - x.b)
def frmOf (x : Fx) : Pq.Frame :=
  if x.kind = 0 then ⟨0, 0, e0, e0⟩ else if x.kind = 1 then ⟨1, 0, e0, e0⟩ else if x.kind = 2 then ⟨2, ((10 * x.a + x.b : Nat) : Int), e0, e0⟩
  else if x.kind = 3 then ⟨3, 0, ⟨3, x.a⟩, ⟨4, x.b⟩⟩ else ⟨3, 0, ⟨4, x.a⟩, ⟨3, x.b⟩⟩
theorem within_in (d : Bool) (L : LN) {x : Fx} (hb : x.b < 10) (n : Int) (i k : Nat) : Pv.withinF [(1, d)] (frmOf x) n (rowK d L i) (rowK d L k) ((i : Int) + 1) ((k : Int) + 1) = inK L x i k := by
  unfold inK frmOf Pv.withinF
  by_cases h0 : x.kind = 0
  · simp [h0]
  by_cases h1 : x.kind = 1
  · simp only [h1, before_g]
    rw [Bool.eq_iff_iff]
    simp
    omega
  by_cases h2 : x.kind = 2
  · simp only [h2, Pv.col0]
    have e : ∀ j, Pv.colV 1 (rowK d L j) = kOf d (gAt L j) := fun _ => rfl
    simp only [e, kOf]
    rw [Bool.eq_iff_iff]
    cases d <;> simp <;> omega
  by_cases h3 : x.kind = 3
  · simp only [h3, Pv.edgeP]
    rw [Bool.eq_iff_iff]
    simp
    omega
  · simp only [h0, h1, h2, h3, Pv.edgeP]
    rw [Bool.eq_iff_iff]
    simp
    omega
/-- V of the copies in the frame, of the first m -/
def inV (L : LN) (x : Fx) (i m : Nat) : List Int := ((List.range m).filter (inK L x i)).map (vAt L)
theorem inV_succ (L : LN) (x : Fx) (i m : Nat) : inV L x i (m + 1) = inV L x i m ++ (if inK L x i m = true then [vAt L m] else []) := by
  unfold inV
  rw [List.range_succ, List.filter_append, List.map_append]
  congr 1
  cases h : inK L x i m <;> simp [h]
theorem inside_v (d : Bool) (L : LN) {x : Fx} (hb : x.b < 10) (n : Int) (i : Nat) : ∀ m, m ≤ L.length → (Pv.insideF [(1, d)] (frmOf x) n (rowK d L i) ((i : Int) + 1) 1 ((lineL d L).take m)).map (Pv.colV 2) = inV L x i m
  | 0, _ => rfl
  | m + 1, hm => by
    have hl : m < (lineL d L).length := by rw [lineL_len]; omega
    have e : (lineL d L)[m] = (rowK d L m, 0) := by
      have := lineL_get d L (i := m) (by omega)
      rw [List.getElem?_eq_getElem hl] at this
      exact Option.some.inj this
    have ih := inside_v d L hb n i m (by omega)
    rw [← Pv.insC_map] at ih ⊢
    rw [Pv.insC_take _ _ _ hl, List.map_append, List.map_append, ih, inV_succ, e, within_in d L hb]
    congr 1
    cases h : inK L x i m <;> simp [rowK, Pv.colV]
def leastF : List Int → Int
  | [] => 0
  | v :: r => r.foldl (fun m y => if y < m then y else m) v
def mostF : List Int → Int
  | [] => 0
  | v :: r => r.foldl (fun m y => if m < y then y else m) v
theorem least_snoc (F : List Int) (v : Int) : leastF (F ++ [v]) = if F.length = 0 then v else if v < leastF F then v else leastF F := by
  cases F with
  | nil => rfl
  | cons a r =>
    show (r ++ [v]).foldl _ a = _
    rw [List.foldl_append, if_neg (by simp)]
    rfl
theorem most_snoc (F : List Int) (v : Int) : mostF (F ++ [v]) = if F.length = 0 then v else if mostF F < v then v else mostF F := by
  cases F with
  | nil => rfl
  | cons a r =>
    show (r ++ [v]).foldl _ a = _
    rw [List.foldl_append, if_neg (by simp)]
    rfl
def firstF (F : List Int) : Int := F.headD 0
def lastF (F : List Int) : Int := F.getLastD 0
theorem first_snoc (F : List Int) (v : Int) : firstF (F ++ [v]) = if F.length = 0 then v else firstF F := by
  cases F <;> simp [firstF]
theorem last_snoc (F : List Int) (v : Int) : lastF (F ++ [v]) = v := by
  simp [lastF, List.getLastD_eq_getLast?]
def totK (k : Nat) (F : List Int) : Val := if k = 3 then some F.length else if F.length = 0 then none else if k = 4 then some F.sum else if k = 5 then some (leastF F) else if k = 6 then some (mostF F) else if k = 7 then some (firstF F) else some (lastF F)
theorem minC_fold (c : Nat) : ∀ (l : List R3) (m : Int), Pv.minC c m l = (l.map (Pv.colV c)).foldl (fun m y => if y < m then y else m) m
  | [], _ => rfl
  | r :: l, m => by rw [Pv.minC, minC_fold c l]; rfl
theorem maxC_fold (c : Nat) : ∀ (l : List R3) (m : Int), Pv.maxC c m l = (l.map (Pv.colV c)).foldl (fun m y => if m < y then y else m) m
  | [], _ => rfl
  | r :: l, m => by rw [Pv.maxC, maxC_fold c l]; rfl
theorem over_tot {k : Nat} (l : List R3) : Pv.overF (k + 3) 2 l = totK k (l.map (Pv.colV 2)) := by
  unfold Pv.overF totK
  by_cases h : k = 3
  · simp [h]
  cases l with
  | nil => simp [h]
  | cons r q =>
    have e0 : ¬ k + 3 = 6 := by omega
    have en : ¬ ((r :: q).map (Pv.colV 2)).length = 0 := by simp
    rw [if_neg e0, if_neg h, if_neg en]
    show (if k + 3 = 7 then some (Pv.sumC 2 (r :: q)) else if k + 3 = 8 then some (Pv.minC 2 (Pv.colV 2 r) (r :: q)) else if k + 3 = 9 then some (Pv.maxC 2 (Pv.colV 2 r) (r :: q)) else if k + 3 = 10 then some (Pv.colV 2 r) else some (Pv.colV 2 ((r :: q).getLast (by simp)))) = _
    by_cases h4 : k = 4
    · rw [if_pos (by omega), if_pos h4]; rfl
    rw [if_neg (by omega : ¬ k + 3 = 7), if_neg h4]
    by_cases h5 : k = 5
    · rw [if_pos (by omega), if_pos h5, minC_fold]
      simp [leastF]
    rw [if_neg (by omega : ¬ k + 3 = 8), if_neg h5]
    by_cases h6 : k = 6
    · rw [if_pos (by omega), if_pos h6, maxC_fold]
      simp [mostF]
    rw [if_neg (by omega : ¬ k + 3 = 9), if_neg h6]
    by_cases h7 : k = 7
    · rw [if_pos (by omega), if_pos h7]; rfl
    rw [if_neg (by omega : ¬ k + 3 = 10), if_neg h7]
    congr 1
    show _ = ((r :: q).map (Pv.colV 2)).getLastD 0
    have := List.getLast?_map (f := Pv.colV 2) (l := r :: q)
    rw [List.getLastD_eq_getLast?, this, List.getLast?_eq_some_getLast (by simp)]
    rfl
/-- how many are in groups ahead -/
def rankK (L : LN) (i : Nat) : Nat := (List.range L.length).countP (fun m => decide (gAt L m < gAt L i))
theorem countP_low (p : Nat → Bool) (k : Nat) : ∀ n, (∀ m, m < n → p m = decide (m < k)) → (List.range n).countP p = min k n
  | 0, _ => by simp
  | n + 1, h => by
    rw [List.range_succ, List.countP_append, countP_low p k n (fun m hm => h m (by omega))]
    simp only [List.countP_cons, List.countP_nil, h n (by omega)]
    by_cases q : n < k
    · simp [q]; omega
    · simp [q]; omega
theorem rank_at {L : LN} (h : LineOk L) {i k : Nat} (hi : i < L.length) (hk : k ≤ i) (h1 : ∀ m, k ≤ m → m ≤ i → gAt L m = gAt L i) (h2 : k = 0 ∨ gAt L (k - 1) ≠ gAt L i) : rankK L i = k := by
  unfold rankK
  rw [countP_low _ k, Nat.min_eq_left (by omega)]
  intro m hm
  rw [Bool.eq_iff_iff, decide_eq_true_eq, decide_eq_true_eq]
  constructor
  · intro q
    refine Classical.byContradiction fun hn => ?_
    have := h.mono (i := k) (j := m) (by omega) hm
    have := h1 k (Nat.le_refl _) hk
    omega
  · intro q
    have a1 := h.mono (i := m) (j := k - 1) (by omega) (by omega)
    have a2 := h.mono (i := k - 1) (j := i) (by omega) hi
    rcases h2 with h2 | h2
    · omega
    · omega
/-- the tile of the position i, from the tile t on -/
def tileQ (i m : Nat) : Nat → Nat → Nat → Nat → Nat
  | 0, _, _, _ => 0
  | f + 1, t, at', left => if i < at' + (left + m - t) / (m - t + 1) then t else tileQ i m f (t + 1) (at' + (left + m - t) / (m - t + 1)) (left - (left + m - t) / (m - t + 1))
def tileN (n i m : Nat) : Nat := tileQ i m m 1 0 n
theorem tile_all : ∀ n : Nat, n < 31 → ∀ m : Nat, m < 5 → ∀ i : Nat, i < n → Pv.tileF ((i : Int) + 1) n ((m : Int) + 1) = (tileN n i (m + 1) : Nat) := by decide +kernel
def shiftK (L : LN) (i : Nat) (j : Int) : Val := if (i : Int) + j < 0 ∨ (L.length : Int) ≤ (i : Int) + j then none else some (vAt L ((i : Int) + j).toNat)
/-- what a FUNC of known making is worth -/
def valK (L : LN) (k n : Nat) (x : Fx) (i : Nat) : Val :=
  if k = 0 then some ((i : Int) + 1) else if k = 1 then some (1 + (rankK L i : Nat)) else if k = 2 then some (gAt L i + 1)
  else if k < 9 then totK k (inV L x i L.length) else if k = 9 then some ((tileN L.length i (n + 1) : Nat) : Int) else if k = 10 then shiftK L i (-(n : Int)) else shiftK L i n
def fnOf (k n : Nat) (x : Fx) : Pq.Fn := if k < 3 then ⟨k, 0, 0, Pq.fr0⟩ else if k < 9 then ⟨k + 3, 2, 0, frmOf x⟩ else if k = 9 then ⟨3, 0, ((n + 1 : Nat) : Int), Pq.fr0⟩ else if k = 10 then ⟨4, 2, n, Pq.fr0⟩ else ⟨5, 2, n, Pq.fr0⟩
theorem groups_known {d : Bool} {L : LN} (h : LineOk L) : ∀ i, i < L.length → Pv.groupsF [(1, d)] ((lineL d L).take (i + 1)) = gAt L i + 1
  | 0, hi => by
    have e : (lineL d L).take 1 = [(rowK d L 0, 0)] := by
      have hl : 0 < (lineL d L).length := by rw [lineL_len]; exact hi
      have := lineL_get d L hi
      cases hq : lineL d L with
      | nil => rw [hq] at hl; simp at hl
      | cons x r => rw [hq] at this; simp at this; simp [this]
    rw [e, h.zero hi]
    rfl
  | i + 1, hi => by
    have hl : i + 1 < (lineL d L).length := by rw [lineL_len]; exact hi
    have e1 : (lineL d L)[i] = (rowK d L i, 0) := by
      have := lineL_get d L (i := i) (by omega)
      rw [List.getElem?_eq_getElem (by omega)] at this
      exact Option.some.inj this
    have e2 : (lineL d L)[i + 1] = (rowK d L (i + 1), 0) := by
      have := lineL_get d L hi
      rw [List.getElem?_eq_getElem hl] at this
      exact Option.some.inj this
    rw [Pv.groups_take _ _ _ hl, groups_known h i (by omega), e1, e2]
    simp only [before_g]
    have := h.step i hi
    by_cases q : gAt L i < gAt L (i + 1)
    · rw [if_pos (by simpa using q)]; omega
    · rw [if_neg (by simpa using q)]; omega
theorem rank_known (d : Bool) (L : LN) (i : Nat) : (lineL d L).countP (fun y => Pv.beforeK [(1, d)] y.1 (rowK d L i)) = rankK L i := by
  unfold lineL rankK
  rw [List.countP_map]
  congr 1
  funext m
  exact before_g d L m i
theorem value_known {d : Bool} {L : LN} (h : LineOk L) {k n i : Nat} {x : Fx} (hi : i < L.length) (hk : k < 12) (hn : n < 5) (hx : x.b < 10) : Pv.valueF [(1, d)] (lineL d L) (fnOf k n x) (i + 1) = valK L k n x i := by
  unfold Pv.valueF
  have e : (lineL d L)[i + 1 - 1]? = some (rowK d L i, 0) := lineL_get d L hi
  rw [e]
  have hl := h.len
  simp only
  by_cases h0 : k = 0
  · simp [h0, fnOf, valK]
  by_cases h1 : k = 1
  · simp [h1, fnOf, valK, rank_known]
  by_cases h2 : k = 2
  · simp only [h2, fnOf, valK]
    simp [groups_known h i hi]
  by_cases h9 : k < 9
  · have ef : fnOf k n x = ⟨k + 3, 2, 0, frmOf x⟩ := by unfold fnOf; rw [if_neg (by omega), if_pos h9]
    have ev : valK L k n x i = totK k (inV L x i L.length) := by unfold valK; rw [if_neg h0, if_neg h1, if_neg h2, if_pos h9]
    rw [ef, ev]
    simp only
    rw [if_neg (by omega), if_neg (by omega), if_neg (by omega), if_neg (by omega), if_neg (by omega), over_tot]
    have := inside_v d L hx ((lineL d L).length : Int) i L.length (Nat.le_refl _)
    rw [List.take_of_length_le (by rw [lineL_len]; exact Nat.le_refl _)] at this
    rw [← this]
    simp
  by_cases h9' : k = 9
  · have ef : fnOf k n x = ⟨3, 0, ((n + 1 : Nat) : Int), Pq.fr0⟩ := by unfold fnOf; rw [if_neg (by omega), if_neg h9, if_pos h9']
    have ev : valK L k n x i = some ((tileN L.length i (n + 1) : Nat) : Int) := by unfold valK; rw [if_neg h0, if_neg h1, if_neg h2, if_neg h9, if_pos h9']
    rw [ef, ev]
    have := tile_all L.length (by omega) n hn i hi
    simp [lineL_len, this]
  by_cases h10 : k = 10
  · have ef : fnOf k n x = ⟨4, 2, n, Pq.fr0⟩ := by unfold fnOf; rw [if_neg (by omega), if_neg h9, if_neg h9', if_pos h10]
    have ev : valK L k n x i = shiftK L i (-(n : Int)) := by unfold valK; rw [if_neg h0, if_neg h1, if_neg h2, if_neg h9, if_neg h9', if_pos h10]
    rw [ef, ev]
    simp only [lineL_len, shiftK]
    rw [if_neg (by omega), if_neg (by omega), if_neg (by omega), if_neg (by omega), if_pos (by omega), if_pos trivial]
    by_cases q : (i : Int) + -(n : Int) < 0 ∨ (L.length : Int) ≤ (i : Int) + -(n : Int)
    · rw [if_pos q, if_pos (by omega)]
    · rw [if_neg q, if_neg (by omega), lineL_get d L (by omega)]
      have : (((i + 1 : Nat) : Int) - n - 1).toNat = ((i : Int) + -(n : Int)).toNat := by omega
      rw [this]
      rfl
  · have ef : fnOf k n x = ⟨5, 2, n, Pq.fr0⟩ := by unfold fnOf; rw [if_neg (by omega), if_neg h9, if_neg h9', if_neg h10]
    have ev : valK L k n x i = shiftK L i n := by unfold valK; rw [if_neg h0, if_neg h1, if_neg h2, if_neg h9, if_neg h9', if_neg h10]
    rw [ef, ev]
    simp only [lineL_len, shiftK]
    rw [if_neg (by omega), if_neg (by omega), if_neg (by omega), if_neg (by omega), if_pos (by omega), if_neg (show ¬ (5 : Nat) = 4 by decide)]
    by_cases q : (i : Int) + (n : Int) < 0 ∨ (L.length : Int) ≤ (i : Int) + (n : Int)
    · rw [if_pos q, if_pos (by omega)]
    · rw [if_neg q, if_neg (by omega), lineL_get d L (by omega)]
      have : (((i + 1 : Nat) : Int) + n - 1).toNat = ((i : Int) + (n : Int)).toNat := by omega
      rw [this]
      rfl
end Pk
end Go.Proofs.YtcoofnhdbejnpaaGreatDoor

/- Plain mathematics: a query of the maker's and its plain form, read as the same. -/
namespace Go.Proofs.YtcoofnhdbejnpaaGreatDoor
namespace Pk
open Pq (Bytes Tok PS)
theorem of_wr {q : Ast} (hq : GoodAst q) {full : Bool} {y : TS} (h : Wr (kQuery q full) ⟨0, [], []⟩ y) (hl : y.raw.length ≤ 300) : Pq.readE y.raw = 0 ∧ ∃ n, Pq.endPS y.raw = astPS q n full := by
  obtain ⟨h1, h2⟩ := read_toks h (adj_query hq full)
  have h3 := query_ok y.raw.length hq h2
  have he : Pq.endPS y.raw = astPS q (Pq.toksOf y.raw).length full := h3
  refine ⟨?_, _, he⟩
  rw [(Pq.readE_ok (by omega) h1).1, he]
  simp [Pq.faultE, astPS]
end Pk
end Go.Proofs.YtcoofnhdbejnpaaGreatDoor

/- Plain mathematics: the text of a query of known making, and what it is read as. -/
namespace Go.Proofs.YtcoofnhdbejnpaaGreatDoor
namespace Pk
open Pq (Bytes Tok PS)
def T0 (d : Bool) : Bytes := if d then [111, 114, 100, 101, 114, 32, 107, 32, 100, 101, 115, 99, 32, 115, 104, 111, 119, 32] else [111, 114, 100, 101, 114, 32, 107, 32, 115, 104, 111, 119, 32]
def txtK (d : Bool) (fs : List Pq.Fn) : Bytes := T0 d ++ Pq.joinTxt (fs.map Pq.fnTxt)
def astK (d : Bool) (fs : List Pq.Fn) : Ast := ⟨[], [(1, d)], fs, none⟩
theorem astK_good {d : Bool} {fs : List Pq.Fn} (hne : fs ≠ []) (hl : fs.length ≤ 4) (hg : ∀ f ∈ fs, GoodFn f) : GoodAst (astK d fs) :=
  ⟨by simp [astK], fun c hc => by simp [astK] at hc, ⟨by simp [astK], by simp [astK], fun c hc => by simp [astK] at hc; subst hc; show 1 < 3; decide⟩, hne, hl, hg, fun a b e => by simp [astK] at e⟩
theorem astK_plain {d : Bool} {fs : List Pq.Fn} (hne : fs ≠ []) (hg : ∀ f ∈ fs, GoodFn f) : plainOf [] (kQuery (astK d fs) true) = txtK d fs := by
  have e : kQuery (astK d fs) true = (.w Pq.wOrder :: .w (Pq.colTxt 1) :: (if d then [.w Pq.wDesc] else [])) ++ (.w Pq.wShow :: kJoin (fs.map kFn)) := by
    unfold kQuery astK
    simp [kBy, kTop, kJoin, kCol]
  have e2 : plainOf [] (.w Pq.wOrder :: .w (Pq.colTxt 1) :: (if d then [.w Pq.wDesc] else [])) = (if d then [111, 114, 100, 101, 114, 32, 107, 32, 100, 101, 115, 99] else [111, 114, 100, 101, 114, 32, 107]) := by cases d <;> decide
  rw [e, plainOf_app, e2, plainOf_w (by cases d <;> simp), pl_join kFn Pq.fnTxt fs _ hne (by simp) (fun x hx p hp => pl_fn hp (hg x hx))]
  unfold txtK T0
  cases d <;> simp [Pq.wShow]
theorem join_len : ∀ (fs : List Pq.Fn), (Pq.joinTxt (fs.map Pq.fnTxt)).length ≤ 42 * fs.length
  | [] => by simp [Pq.joinTxt]
  | [f] => by
    have := Pq.fnTxt_len f
    simp [Pq.joinTxt]; omega
  | f :: g :: r => by
    have h1 := Pq.fnTxt_len f
    have ih := join_len (g :: r)
    have e : Pq.joinTxt ((f :: g :: r).map Pq.fnTxt) = Pq.fnTxt f ++ (44 :: 32 :: Pq.joinTxt ((g :: r).map Pq.fnTxt)) := rfl
    rw [e]
    simp at ih ⊢
    omega
theorem txtK_len {d : Bool} {fs : List Pq.Fn} (hl : fs.length ≤ 4) : (txtK d fs).length ≤ 200 := by
  have := join_len fs
  unfold txtK T0
  cases d <;> simp <;> omega
theorem txtK_snoc (d : Bool) (fs : List Pq.Fn) (f : Pq.Fn) : txtK d (fs ++ [f]) = if fs.length = 0 then txtK d fs ++ Pq.fnTxt f else txtK d fs ++ [44, 32] ++ Pq.fnTxt f := by
  unfold txtK
  rw [List.map_append, List.map_cons, List.map_nil, Pq.joinTxt_snoc]
  cases fs with
  | nil => simp [Pq.joinTxt]
  | cons a r => simp
theorem known_read {d : Bool} {fs : List Pq.Fn} (hne : fs ≠ []) (hl : fs.length ≤ 4) (hg : ∀ f ∈ fs, GoodFn f) : Pq.readE (txtK d fs) = 0 ∧ ∃ n, Pq.endPS (txtK d fs) = astPS (astK d fs) n true := by
  have hp := astK_plain (d := d) hne hg
  have := txtK_len (d := d) hl
  have h2 := of_wr (astK_good (d := d) hne hl hg) (full := true) (canon_wr (kQuery (astK d fs) true) []) (by rw [hp]; show (txtK d fs).length ≤ 300; omega)
  simp only [hp] at h2
  exact h2
/-- a FUNC of known making -/
structure FuOk (k n : Nat) (x : Fx) : Prop where
  k : k < 12
  n : n < 5
  kind : x.kind < 5
  a : x.a < 4
  b : x.b < 4
theorem frmOf_good {x : Fx} (ha : x.a < 4) (hb : x.b < 4) : GoodFrame (frmOf x) := by
  unfold frmOf
  have g3 : ∀ m : Nat, m < 100 → GoodEdge ⟨3, m⟩ := fun m hm => ⟨show 3 < 5 by decide, fun q => absurd (show 3 < 3 from q) (by decide), ⟨show (0 : Int) ≤ m by omega, show (m : Int) < 100 by omega⟩⟩
  have g4 : ∀ m : Nat, m < 100 → GoodEdge ⟨4, m⟩ := fun m hm => ⟨show 4 < 5 by decide, fun q => absurd (show 4 < 3 from q) (by decide), ⟨show (0 : Int) ≤ m by omega, show (m : Int) < 100 by omega⟩⟩
  split
  · exact GoodFrame.all
  · split
    · exact GoodFrame.peers
    · split
      · exact GoodFrame.near _ (by omega)
      · split
        · exact GoodFrame.between _ _ (g3 _ (by omega)) (g4 _ (by omega))
        · exact GoodFrame.between _ _ (g4 _ (by omega)) (g3 _ (by omega))
theorem fnOf_good {k n : Nat} {x : Fx} (h : FuOk k n x) : GoodFn (fnOf k n x) := by
  have := h.k
  have := h.n
  unfold fnOf
  split
  · exact GoodFn.plain _ (by omega)
  · split
    · exact GoodFn.over _ _ _ (by omega) (by omega) (by decide) (frmOf_good h.a h.b)
    · split
      · exact GoodFn.tile _ (by omega) (by omega)
      · split
        · exact GoodFn.lag _ _ _ (.inl rfl) (by decide) (by omega)
        · exact GoodFn.lag _ _ _ (.inr rfl) (by decide) (by omega)
end Pk
end Go.Proofs.YtcoofnhdbejnpaaGreatDoor

