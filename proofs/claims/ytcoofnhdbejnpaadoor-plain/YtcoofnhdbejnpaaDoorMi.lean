/- Plain mathematics: the tokens of a query stand apart; its plain form. -/
import Derived.Test.YtcoofnhdbejnpaaDoorMh
namespace Go.Proofs.YtcoofnhdbejnpaaDoor
namespace Pk
open Pq (Bytes Tok PS)
theorem adj_any {ks : List Kd} (h : Adj false ks) (ps : Bool) : Adj ps ks := by
  cases ks with
  | nil => trivial
  | cons k r => exact ⟨.inr (by rcases h.1 with h | h; · cases h
                                · exact h), h.2⟩
theorem adj_app {ls : List Kd} (hl : Adj false ls) : ∀ {ks : List Kd} {ps : Bool}, Adj ps ks → Adj ps (ks ++ ls)
  | [], ps, _ => adj_any hl ps
  | _ :: _, _, h => ⟨h.1, h.2.1, adj_app hl h.2.2⟩
theorem tkw {t : Bytes} (h0 : t ≠ []) (h8 : t.length ≤ 8) (h : ∀ c ∈ t, Pq.isLet c = true) : Pq.Tk t := .word t h0 h8 h
theorem tk_kind (k : Nat) (hk : k < 12) : Pq.Tk (Pq.kindTxt k) := by
  have hall : ∀ k : Fin 12, Pq.kindTxt k.val ≠ [] ∧ (Pq.kindTxt k.val).length ≤ 8 ∧ ∀ c ∈ Pq.kindTxt k.val, Pq.isLet c = true := by decide +kernel
  have := hall ⟨k, hk⟩
  exact tkw this.1 this.2.1 this.2.2
theorem tk_col (k : Nat) (hk : k < 3) : Pq.Tk (Pq.colTxt k) := by
  have hall : ∀ k : Fin 3, Pq.colTxt k.val ≠ [] ∧ (Pq.colTxt k.val).length ≤ 8 ∧ ∀ c ∈ Pq.colTxt k.val, Pq.isLet c = true := by decide +kernel
  have := hall ⟨k, hk⟩
  exact tkw this.1 this.2.1 this.2.2
theorem adj_w {t : Bytes} {r : List Kd} (ht : Pq.Tk t) (hr : Adj false r) {ps : Bool} : Adj ps (.w t :: r) := ⟨.inr trivial, ht, hr⟩
theorem adj_n {k : Nat} {r : List Kd} (hk : k < 100) (hr : Adj false r) {ps : Bool} : Adj ps (.n k true :: r) := ⟨.inr rfl, hk, hr⟩
theorem adj_g {c : UInt8} {r : List Kd} (hc : Pq.isSgn c = true) (hr : Adj true r) {ps : Bool} : Adj ps (.g [c] :: r) := by
  have e : (Kd.g [c]).isSign = true := hc
  exact ⟨.inr e, .sign c hc, by rw [e]; exact hr⟩
theorem adj_nil {ps : Bool} : Adj ps [] := trivial
theorem adj_col (c : Nat × Bool) (hc : c.1 < 3) : Adj false (kCol c) := by
  obtain ⟨c, d⟩ := c
  cases d
  · exact adj_w (tk_col c hc) adj_nil
  · exact adj_w (tk_col c hc) (adj_w (tkw (by decide) (by decide) (by decide)) adj_nil)
theorem adj_join : ∀ (xs : List (List Kd)), (∀ x ∈ xs, Adj false x) → Adj false (kJoin xs)
  | [], _ => trivial
  | [x], h => h x (by simp)
  | x :: y :: r, h => by
    have ih := adj_join (y :: r) (fun z hz => h z (by simp [hz]))
    exact adj_app (adj_g (by decide) (adj_any ih true)) (h x (by simp))
theorem toNat_lt {n : Int} (h : Pq.goodNum n) : n.toNat < 100 := by have := h.1; have := h.2; omega
theorem adj_edge (e : Pq.Edge) (h : GoodEdge e) : Adj false (kEdge e) := by
  have hn := toNat_lt h.num
  unfold kEdge
  repeat' split
  · exact adj_w (tkw (by decide) (by decide) (by decide)) adj_nil
  · exact adj_w (tkw (by decide) (by decide) (by decide)) adj_nil
  · exact adj_w (tkw (by decide) (by decide) (by decide)) adj_nil
  · exact adj_n hn (adj_w (tkw (by decide) (by decide) (by decide)) adj_nil)
  · exact adj_n hn (adj_w (tkw (by decide) (by decide) (by decide)) adj_nil)
theorem adj_frame (f : Pq.Frame) (h : GoodFrame f) : Adj false (kFrame f) := by
  induction f, h using GoodFrame_ind with
  | all => exact adj_w (tkw (by decide) (by decide) (by decide)) adj_nil
  | peers => exact adj_w (tkw (by decide) (by decide) (by decide)) adj_nil
  | near n hn => exact adj_w (tkw (by decide) (by decide) (by decide)) (adj_n hn adj_nil)
  | between a b ha hb => exact adj_app (adj_w (tkw (by decide) (by decide) (by decide)) (adj_edge b hb)) (adj_edge a ha)
theorem adj_letter {c : Nat} {r : List Kd} (hc : c < 3) (hr : Adj false r) : Adj true (.g (Pq.colTxt c) :: r) := by
  refine ⟨.inl rfl, tk_col c hc, ?_⟩
  exact adj_any hr _
theorem adj_fn (f : Pq.Fn) (h : GoodFn f) : Adj false (kFn f) := by
  induction f, h using GoodFn_ind with
  | plain k hk =>
    have : kFn ⟨k, 0, 0, Pq.fr0⟩ = [.w (Pq.kindTxt k)] := by simp [kFn, hk]
    rw [this]; exact adj_w (tk_kind k (by omega)) adj_nil
  | tile n hn h0 =>
    have : kFn ⟨3, 0, n, Pq.fr0⟩ = [.w (Pq.kindTxt 3), .g [40], .n n false, .g [41]] := rfl
    rw [this]
    have hnf : Adj true [.n n false, .g [41]] := ⟨.inl rfl, hn, adj_g (by decide) adj_nil⟩
    exact adj_w (tk_kind 3 (by omega)) (adj_g (by decide) hnf)
  | lag k c n hk hc hn =>
    have : kFn ⟨k, c, n, Pq.fr0⟩ = [.w (Pq.kindTxt k), .g [40], .g (Pq.colTxt c), .g [44], .n n true, .g [41]] := by rcases hk with rfl | rfl <;> rfl
    rw [this]
    exact adj_w (tk_kind k (by omega)) (adj_g (by decide) (adj_letter hc (adj_g (by decide) (adj_n hn (adj_g (by decide) adj_nil)))))
  | over k c f h6 hk hc hf =>
    have : kFn ⟨k, c, 0, f⟩ = .w (Pq.kindTxt k) :: .g [40] :: .g (Pq.colTxt c) :: .g [44] :: (kFrame f ++ [.g [41]]) := by
      unfold kFn; rw [if_neg (by simp; omega), if_neg (by simp; omega), if_neg (by simp; omega)]; simp
    rw [this]
    exact adj_w (tk_kind k hk) (adj_g (by decide) (adj_letter hc (adj_g (by decide) (adj_any (adj_app (adj_g (by decide) adj_nil) (adj_frame f hf)) true))))
theorem adj_query {q : Ast} (hq : GoodAst q) (full : Bool) : Adj true (kQuery q full) := by
  have hkeys : Adj false (kJoin (q.keys.map kCol)) := adj_join _ (fun x hx => by obtain ⟨c, hc, rfl⟩ := List.mem_map.1 hx; exact adj_col c (hq.keys.lt c hc))
  have hfns : Adj false (kJoin (q.funcs.map kFn)) := adj_join _ (fun x hx => by obtain ⟨c, hc, rfl⟩ := List.mem_map.1 hx; exact adj_fn c (hq.fg c hc))
  have htop : Adj false (kTop q.top full) := by
    unfold kTop
    split
    · trivial
    · rename_i a b e
      obtain ⟨ha, hb⟩ := hq.top a b e
      refine adj_w (tkw (by decide) (by decide) (by decide)) (adj_n ha ?_)
      split
      · exact adj_w (tkw (by decide) (by decide) (by decide)) (adj_n hb adj_nil)
      · trivial
  have hrest : Adj false (.w Pq.wOrder :: (kJoin (q.keys.map kCol) ++ (.w Pq.wShow :: (kJoin (q.funcs.map kFn) ++ kTop q.top full)))) :=
    adj_w (tkw (by decide) (by decide) (by decide)) (adj_app (adj_w (tkw (by decide) (by decide) (by decide)) (adj_app htop hfns)) hkeys)
  unfold kQuery kBy
  split
  · exact adj_any hrest true
  · refine adj_app hrest (adj_w (tkw (by decide) (by decide) (by decide)) ?_)
    exact adj_join _ (fun x hx => by obtain ⟨c, hc, rfl⟩ := List.mem_map.1 hx; exact adj_col (c, false) (hq.byL c hc))
/-! the plain form -/
theorem plainOf_app : ∀ (ks ls : List Kd) (p : Bytes), plainOf p (ks ++ ls) = plainOf (plainOf p ks) ls
  | [], _, _ => rfl
  | _ :: ks, ls, _ => plainOf_app ks ls _
theorem plainOf_w {p t : Bytes} (hp : p ≠ []) (r : List Kd) : plainOf p (.w t :: r) = plainOf (p ++ 32 :: t) r := by
  have : p.isEmpty = false := by cases p with | nil => exact absurd rfl hp | cons => rfl
  simp [plainOf, Kd.psep, Kd.ptext, this]
theorem plainOf_g (p t : Bytes) (r : List Kd) : plainOf p (.g t :: r) = plainOf (p ++ t) r := by simp [plainOf, Kd.psep, Kd.ptext]
theorem plainOf_n (p : Bytes) (k : Nat) (r : List Kd) : plainOf p (.n k true :: r) = plainOf (p ++ 32 :: Pq.numTxt k) r := by simp [plainOf, Kd.psep, Kd.ptext]
theorem plainOf_nf (p : Bytes) (k : Nat) (r : List Kd) : plainOf p (.n k false :: r) = plainOf (p ++ Pq.numTxt k) r := by simp [plainOf, Kd.psep, Kd.ptext]
theorem plainOf_nil (p : Bytes) : plainOf p [] = p := rfl
theorem pl_col {p : Bytes} (hp : p ≠ []) (c : Nat × Bool) : plainOf p (kCol c) = p ++ 32 :: Pq.keyTxt c := by
  obtain ⟨c, d⟩ := c
  cases d
  · simp [kCol, plainOf_w hp, plainOf_nil, Pq.keyTxt]
  · have h2 : p ++ 32 :: Pq.colTxt c ≠ [] := by simp
    simp [kCol, plainOf_w hp, plainOf_w h2, plainOf_nil, Pq.keyTxt]
theorem pl_join {α : Type} (K : α → List Kd) (T : α → Bytes) : ∀ (xs : List α) (p : Bytes), xs ≠ [] → p ≠ [] → (∀ x ∈ xs, ∀ p : Bytes, p ≠ [] → plainOf p (K x) = p ++ 32 :: T x) → plainOf p (kJoin (xs.map K)) = p ++ 32 :: Pq.joinTxt (xs.map T)
  | [], _, h, _, _ => absurd rfl h
  | [x], p, _, hp, h => h x (by simp) p hp
  | x :: y :: r, p, _, hp, h => by
    have e : kJoin ((x :: y :: r).map K) = K x ++ (.g [44] :: kJoin ((y :: r).map K)) := rfl
    have e2 : Pq.joinTxt ((x :: y :: r).map T) = T x ++ (44 :: 32 :: Pq.joinTxt ((y :: r).map T)) := rfl
    rw [e, e2, plainOf_app, h x (by simp) p hp, plainOf_g, pl_join K T (y :: r) _ (by simp) (by simp) (fun z hz => h z (by simp [hz]))]
    simp
theorem toNat_cast {n : Int} (h : 0 ≤ n) : ((n.toNat : Nat) : Int) = n := by omega
theorem pl_edge {p : Bytes} (hp : p ≠ []) {e : Pq.Edge} (he : GoodEdge e) : plainOf p (kEdge e) = p ++ 32 :: Pq.edgeTxt e := by
  have hc := toNat_cast he.num.1
  have h2 : p ++ 32 :: Pq.numTxt e.num ≠ [] := by simp
  unfold kEdge Pq.edgeTxt
  repeat' split
  all_goals simp [plainOf_w hp, plainOf_n, plainOf_nil, hc, plainOf_w h2]
theorem pl_frame {p : Bytes} (hp : p ≠ []) {f : Pq.Frame} (hf : GoodFrame f) : plainOf p (kFrame f) = p ++ 32 :: Pq.frameTxt f := by
  induction f, hf using GoodFrame_ind with
  | all => simp [kFrame, Pq.frameTxt, plainOf_w hp, plainOf_nil]
  | peers => simp [kFrame, Pq.frameTxt, plainOf_w hp, plainOf_nil]
  | near n hn => simp [kFrame, Pq.frameTxt, plainOf_w hp, plainOf_n, plainOf_nil]
  | between a b ha hb =>
    have e : kFrame ⟨3, 0, a, b⟩ = kEdge a ++ (.w Pq.wTo :: kEdge b) := rfl
    have e2 : Pq.frameTxt ⟨3, 0, a, b⟩ = Pq.edgeTxt a ++ (32 :: Pq.wTo ++ [32]) ++ Pq.edgeTxt b := rfl
    rw [e, e2, plainOf_app, pl_edge hp ha, plainOf_w (by simp), pl_edge (by simp) hb]
    simp
theorem pl_fn {p : Bytes} (hp : p ≠ []) {f : Pq.Fn} (hf : GoodFn f) : plainOf p (kFn f) = p ++ 32 :: Pq.fnTxt f := by
  induction f, hf using GoodFn_ind with
  | plain k hk => simp [kFn, Pq.fnTxt, hk, plainOf_w hp, plainOf_nil]
  | tile n hn h0 =>
    have e : kFn ⟨3, 0, n, Pq.fr0⟩ = [.w (Pq.kindTxt 3), .g [40], .n n false, .g [41]] := rfl
    have e2 : Pq.fnTxt ⟨3, 0, n, Pq.fr0⟩ = Pq.kindTxt 3 ++ (Pq.wOpen ++ Pq.numTxt n) ++ Pq.wClose := rfl
    rw [e, e2, plainOf_w hp, plainOf_g, plainOf_nf, plainOf_g, plainOf_nil]
    simp [Pq.wOpen, Pq.wClose]
  | lag k c n hk hc hn =>
    have e : kFn ⟨k, c, n, Pq.fr0⟩ = [.w (Pq.kindTxt k), .g [40], .g (Pq.colTxt c), .g [44], .n n true, .g [41]] := by rcases hk with rfl | rfl <;> rfl
    have e2 : Pq.fnTxt ⟨k, c, n, Pq.fr0⟩ = Pq.kindTxt k ++ (Pq.wOpen ++ Pq.colTxt c) ++ (Pq.wComma ++ 32 :: Pq.numTxt n) ++ Pq.wClose := by rcases hk with rfl | rfl <;> rfl
    rw [e, e2, plainOf_w hp, plainOf_g, plainOf_g, plainOf_g, plainOf_n, plainOf_g, plainOf_nil]
    simp [Pq.wOpen, Pq.wClose, Pq.wComma]
  | over k c f h6 hk hc hf =>
    have e : kFn ⟨k, c, 0, f⟩ = .w (Pq.kindTxt k) :: .g [40] :: .g (Pq.colTxt c) :: .g [44] :: (kFrame f ++ [.g [41]]) := by
      unfold kFn; rw [if_neg (by simp; omega), if_neg (by simp; omega), if_neg (by simp; omega)]; simp
    have e2 : Pq.fnTxt ⟨k, c, 0, f⟩ = Pq.kindTxt k ++ (Pq.wOpen ++ Pq.colTxt c) ++ (Pq.wComma ++ 32 :: Pq.frameTxt f) ++ Pq.wClose := by
      unfold Pq.fnTxt; rw [if_neg (by simp; omega), if_neg (by simp; omega), if_neg (by simp; omega)]
    rw [e, e2, plainOf_w hp, plainOf_g, plainOf_g, plainOf_g, plainOf_app, pl_frame (by simp) hf, plainOf_g, plainOf_nil]
    simp [Pq.wOpen, Pq.wClose, Pq.wComma]
end Pk
end Go.Proofs.YtcoofnhdbejnpaaDoor
