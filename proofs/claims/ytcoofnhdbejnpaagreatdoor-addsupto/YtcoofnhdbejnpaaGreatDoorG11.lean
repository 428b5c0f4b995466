/- Plain mathematics: the tokens of a query stand apart; its plain form. -/
import Derived.Test.YtcoofnhdbejnpaaGreatDoorG10
import Derived.Test.YtcoofnhdbejnpaaGreatDoorG07
namespace Go.Proofs.YtcoofnhdbejnpaaGreatDoor
namespace Pk
open Pq (Bytes Tok PS)
theorem adj_any {ks : List Kd} (h : Adj false ks) (ps : Bool) : Adj ps ks := by
  cases ks with
  | nil => trivial
  | cons k r => exact ⟨.inr (by rcases h.1 with h | h; · cases h
                                · exact h), h.2⟩
theorem adj_app {ls : List Kd} (hl : Adj false ls) : ∀ {ks : List Kd} {ps : Bool}, Adj ps ks → Adj ps (ks ++ ls)
  | [], ps, _ => adj_any hl ps
  | _ :: _, _, h => ⟨h.1, h.2.1, adj_app hl h.2.2⟩
theorem tkw {t : Bytes} (h0 : t ≠ []) (h8 : t.length ≤ 8) (h : ∀ c ∈ t, Pq.isLet c = true) : Pq.Tk t := .word t h0 h8 h
theorem tk_kind (k : Nat) (hk : k < 12) : Pq.Tk (Pq.kindTxt k) := by
  have hall : ∀ k : Fin 12, Pq.kindTxt k.val ≠ [] ∧ (Pq.kindTxt k.val).length ≤ 8 ∧ ∀ c ∈ Pq.kindTxt k.val, Pq.isLet c = true := by decide +kernel
  have := hall ⟨k, hk⟩
  exact tkw this.1 this.2.1 this.2.2
theorem tk_col (k : Nat) (hk : k < 3) : Pq.Tk (Pq.colTxt k) := by
  have hall : ∀ k : Fin 3, Pq.colTxt k.val ≠ [] ∧ (Pq.colTxt k.val).length ≤ 8 ∧ ∀ c ∈ Pq.colTxt k.val, Pq.isLet c = true := by decide +kernel
  have := hall ⟨k, hk⟩
  exact tkw this.1 this.2.1 this.2.2
theorem adj_w {t : Bytes} {r : List Kd} (ht : Pq.Tk t) (hr : Adj false r) {ps : Bool} : Adj ps (.w t :: r) := ⟨.inr trivial, ht, hr⟩
theorem adj_n {k : Nat} {r : List Kd} (hk : k < 100) (hr : Adj false r) {ps : Bool} : Adj ps (.n k true :: r) := ⟨.inr rfl, hk, hr⟩
theorem adj_g {c : UInt8} {r : List Kd} (hc : Pq.isSgn c = true) (hr : Adj true r) {ps : Bool} : Adj ps (.g [c] :: r) := by
  have e : (Kd.g [c]).isSign = true := hc
  exact ⟨.inr e, .sign c hc, by rw [e]; exact hr⟩
theorem adj_nil {ps : Bool} : Adj ps [] := trivial
theorem adj_col (c : Nat × Bool) (hc : c.1 < 3) : Adj false (kCol c) := by
  obtain ⟨c, d⟩ := c
  cases d
  · exact adj_w (tk_col c hc) adj_nil
  · exact adj_w (tk_col c hc) (adj_w (tkw (by decide) (by decide) (by decide)) adj_nil)
theorem adj_join : ∀ (xs : List (List Kd)), (∀ x ∈ xs, Adj false x) → Adj false (kJoin xs)
  | [], _ => trivial
  | [x], h => h x (by simp)
  | x :: y :: r, h => by
    have ih := adj_join (y :: r) (fun z hz => h z (by simp [hz]))
    exact adj_app (adj_g (by decide) (adj_any ih true)) (h x (by simp))
theorem toNat_lt {n : Int} (h : Pq.goodNum n) : n.toNat < 100 := by have := h.1; have := h.2; omega
theorem adj_edge (e : Pq.Edge) (h : GoodEdge e) : Adj false (kEdge e) := by
  have hn := toNat_lt h.num
  unfold kEdge
  repeat' split
  · exact adj_w (tkw (by decide) (by decide) (by decide)) adj_nil
  · exact adj_w (tkw (by decide) (by decide) (by decide)) adj_nil
  · exact adj_w (tkw (by decide) (by decide) (by decide)) adj_nil
  · exact adj_n hn (adj_w (tkw (by decide) (by decide) (by decide)) adj_nil)
  · exact adj_n hn (adj_w (tkw (by decide) (by decide) (by decide)) adj_nil)
theorem adj_frame (f : Pq.Frame) (h : GoodFrame f) : Adj false (kFrame f) := by
  induction f, h using GoodFrame_ind with
  | all => exact adj_w (tkw (by decide) (by decide) (by decide)) adj_nil
  | peers => exact adj_w (tkw (by decide) (by decide) (by decide)) adj_nil
  | near n hn => exact adj_w (tkw (by decide) (by decide) (by decide)) (adj_n hn adj_nil)
  | between a b ha hb => exact adj_app (adj_w (tkw (by decide) (by decide) (by decide)) (adj_edge b hb)) (adj_edge a ha)
theorem adj_letter {c : Nat} {r : List Kd} (hc : c < 3) (hr : Adj false r) : Adj true (.g (Pq.colTxt c) :: r) := by
  refine ⟨.inl rfl, tk_col c hc, ?_⟩
  exact adj_any hr _
theorem adj_fn (f : Pq.Fn) (h : GoodFn f) : Adj false (kFn f) := by
  induction f, h using GoodFn_ind with
  | plain k hk =>
    have : kFn ⟨k, 0, 0, Pq.fr0⟩ = [.w (Pq.kindTxt k)] := by simp [kFn, hk]
    rw [this]; exact adj_w (tk_kind k (by omega)) adj_nil
  | tile n hn h0 =>
    have : kFn ⟨3, 0, n, Pq.fr0⟩ = [.w (Pq.kindTxt 3), .g [40], .n n false, .g [41]] := rfl
    rw [this]
    have hnf : Adj true [.n n false, .g [41]] := ⟨.inl rfl, hn, adj_g (by decide) adj_nil⟩
    exact adj_w (tk_kind 3 (by omega)) (adj_g (by decide) hnf)
  | lag k c n hk hc hn =>
    have : kFn ⟨k, c, n, Pq.fr0⟩ = [.w (Pq.kindTxt k), .g [40], .g (Pq.colTxt c), .g [44], .n n true, .g [41]] := by rcases hk with rfl | rfl <;> rfl
    rw [this]
    exact adj_w (tk_kind k (by omega)) (adj_g (by decide) (adj_letter hc (adj_g (by decide) (adj_n hn (adj_g (by decide) adj_nil)))))
  | over k c f h6 hk hc hf =>
    have : kFn ⟨k, c, 0, f⟩ = .w (Pq.kindTxt k) :: .g [40] :: .g (Pq.colTxt c) :: .g [44] :: (kFrame f ++ [.g [41]]) := by
      unfold kFn; rw [if_neg (by simp; omega), if_neg (by simp; omega), if_neg (by simp; omega)]; simp
    rw [this]
    exact adj_w (tk_kind k hk) (adj_g (by decide) (adj_letter hc (adj_g (by decide) (adj_any (adj_app (adj_g (by decide) adj_nil) (adj_frame f hf)) true))))
theorem adj_query {q : Ast} (hq : GoodAst q) (full : Bool) : Adj true (kQuery q full) := by
  have hkeys : Adj false (kJoin (q.keys.map kCol)) := adj_join _ (fun x hx => by obtain ⟨c, hc, rfl⟩ := List.mem_map.1 hx; exact adj_col c (hq.keys.lt c hc))
  have hfns : Adj false (kJoin (q.funcs.map kFn)) := adj_join _ (fun x hx => by obtain ⟨c, hc, rfl⟩ := List.mem_map.1 hx; exact adj_fn c (hq.fg c hc))
  have htop : Adj false (kTop q.top full) := by
    unfold kTop
    split
    · trivial
    · rename_i a b e
      obtain ⟨ha, hb⟩ := hq.top a b e
      refine adj_w (tkw (by decide) (by decide) (by decide)) (adj_n ha ?_)
      split
      · exact adj_w (tkw (by decide) (by decide) (by decide)) (adj_n hb adj_nil)
      · trivial
  have hrest : Adj false (.w Pq.wOrder :: (kJoin (q.keys.map kCol) ++ (.w Pq.wShow :: (kJoin (q.funcs.map kFn) ++ kTop q.top full)))) :=
    adj_w (tkw (by decide) (by decide) (by decide)) (adj_app (adj_w (tkw (by decide) (by decide) (by decide)) (adj_app htop hfns)) hkeys)
  unfold kQuery kBy
  split
  · exact adj_any hrest true
  · refine adj_app hrest (adj_w (tkw (by decide) (by decide) (by decide)) ?_)
    exact adj_join _ (fun x hx => by obtain ⟨c, hc, rfl⟩ := List.mem_map.1 hx; exact adj_col (c, false) (hq.byL c hc))
/-! the plain form -/
theorem plainOf_app : ∀ (ks ls : List Kd) (p : Bytes), plainOf p (ks ++ ls) = plainOf (plainOf p ks) ls
  | [], _, _ => rfl
  | _ :: ks, ls, _ => plainOf_app ks ls _
theorem plainOf_w {p t : Bytes} (hp : p ≠ []) (r : List Kd) : plainOf p (.w t :: r) = plainOf (p ++ 32 :: t) r := by
  have : p.isEmpty = false := by cases p with | nil => exact absurd rfl hp | cons => rfl
  simp [plainOf, Kd.psep, Kd.ptext, this]
theorem plainOf_n (p : Bytes) (k : Nat) (r : List Kd) : plainOf p (.n k true :: r) = plainOf (p ++ 32 :: Pq.numTxt k) r := by simp [plainOf, Kd.psep, Kd.ptext]
theorem plainOf_nil (p : Bytes) : plainOf p [] = p := rfl
end Pk
end Go.Proofs.YtcoofnhdbejnpaaGreatDoor

/- Plain mathematics: a query of the maker's has its plain form, which is its own. -/
namespace Go.Proofs.YtcoofnhdbejnpaaGreatDoor
namespace Pk
open Pq (Bytes Tok PS)
theorem canon_wr : ∀ (ks : List Kd) (p : Bytes), Wr ks ⟨0, p, p⟩ ⟨0, plainOf p ks, plainOf p ks⟩
  | [], p => Wr.nil _
  | k :: ks, p => by
    have ih := canon_wr ks (p ++ k.psep p.isEmpty ++ k.ptext)
    have h1 : Wr [k] ⟨0, p, p⟩ ⟨0, p ++ k.psep p.isEmpty ++ k.ptext, p ++ k.psep p.isEmpty ++ k.ptext⟩ := by
      refine ⟨[(k.psep p.isEmpty, k.ptext)], .cons ?_ ?_ rfl rfl (.nil rfl rfl)⟩
      · have h32 : Pq.isBlk 32 = true := by decide
        induction k using Kd_ind with
        | w t => cases hp : p.isEmpty <;> simp [Kd.Sep, Kd.psep, h32]
        | g t => simp [Kd.Sep, Kd.psep]
        | n a b => cases b <;> simp [Kd.Sep, Kd.psep, h32]
      · induction k using Kd_ind with
        | w t => rfl
        | g t => rfl
        | n a b => exact .inl rfl
    exact h1.app ih
def fullOf (q : Ast) : Bool := match q.top with | some (_, b) => decide (b ≠ 0) | none => true
theorem pl_ne {p : Bytes} (hp : p ≠ []) : ∀ ks, plainOf p ks ≠ []
  | [] => hp
  | k :: ks => pl_ne (by simp [hp]) ks
theorem Ln.colsToF {n : Nat} {x : TS} (h : Ln n x) (l : Bytes) (a : Nat) : ∀ k, Ln (n + 6 * k) (Pk.colsTo l false a k x)
  | 0 => h
  | k + 1 => (((Ln.colsToF h l a k).comma l k).word l (colW (a + k)) (k := 1) (by rw [colW_len]; omega)).mono (by omega)
theorem Ln.colsF {n : Nat} {x : TS} (h : Ln n x) (l : Bytes) : Ln (n + 18) (Pk.colsS l false x) := by
  have := nxt_lt l (adv l x.a) 3 (by omega)
  exact (Ln.colsToF (((h.eat l).eat l)) l _ _).mono (by omega)
theorem main_by (l : Bytes) (b : Bool) : ∃ q : Ast, GoodAst q ∧ q.top = none ∧ Wr (kQuery q true) ⟨0, [], []⟩ (mainS l b ⟨0, [], []⟩) ∧ Ln 261 (mainS l b ⟨0, [], []⟩) ∧ (b = false → q.by' = []) := by
  have hby : ∃ cs : List Nat, cs.Nodup ∧ (∀ c ∈ cs, c < 3) ∧ Wr (kBy cs) ⟨0, [], []⟩ (byS l b ⟨0, [], []⟩) ∧ Ln 23 (byS l b ⟨0, [], []⟩) ∧ (b = false → cs = []) := by
    have h0 : Ln 0 ⟨0, [], []⟩ := ⟨Nat.le_refl _, Nat.le_refl _⟩
    cases b
    · exact ⟨[], List.nodup_nil, (fun c hc => by cases hc), Wr.nil _, h0.mono (by omega), fun _ => rfl⟩
    · obtain ⟨cs, hg, hd, hw⟩ := cols_wr l false (wordS l [98, 121] ⟨0, [], []⟩)
      have hne : cs.map Prod.fst ≠ [] := by have := hg.ne; simp [this]
      refine ⟨cs.map Prod.fst, hg.nodup, ?_, ?_, ((h0.word l [98, 121] (k := 2) (by simp)).colsF l).mono (by omega), fun e => by cases e⟩
      · intro c hc; obtain ⟨x, hx, rfl⟩ := List.mem_map.1 hc; exact hg.lt x hx
      · unfold kBy
        rw [if_neg hne]
        have e : (cs.map Prod.fst).map (fun c => kCol (c, false)) = cs.map kCol := by
          rw [List.map_map]
          refine List.map_congr_left (fun x hx => ?_)
          have := hd rfl x hx
          show kCol (x.1, false) = kCol x
          rw [← this]
        rw [e]
        exact (Wr.word l [98, 121] _).one hw
  obtain ⟨cs, hn, hlt, hw, hL, hb0⟩ := hby
  obtain ⟨ks, hg, _, hwk⟩ := cols_wr l true (wordS l [111, 114, 100, 101, 114] (byS l b ⟨0, [], []⟩))
  have hLs := (((hL.word l [111, 114, 100, 101, 114] (k := 5) (by simp)).cols l true).word l [115, 104, 111, 119] (k := 4) (by simp))
  have hM : mainS l b ⟨0, [], []⟩ = funsTo l (1 + nxt l (wordS l [115, 104, 111, 119] (colsS l true (wordS l [111, 114, 100, 101, 114] (byS l b ⟨0, [], []⟩)))).a 4) ((wordS l [115, 104, 111, 119] (colsS l true (wordS l [111, 114, 100, 101, 114] (byS l b ⟨0, [], []⟩)))).eat l) := rfl
  have hwy := Wr.word l [115, 104, 111, 119] (colsS l true (wordS l [111, 114, 100, 101, 114] (byS l b ⟨0, [], []⟩)))
  generalize wordS l [115, 104, 111, 119] (colsS l true (wordS l [111, 114, 100, 101, 114] (byS l b ⟨0, [], []⟩))) = y at *
  have hn4 := nxt_lt l y.a 4 (by omega)
  obtain ⟨fs, hfl, hfg, hwf⟩ := funs_to l (y.eat l) (1 + nxt l y.a 4)
  refine ⟨⟨cs, ks, fs, none⟩, ⟨hn, hlt, hg, by intro e; simp only at e; rw [e] at hfl; simp at hfl; omega, by simp only; omega, hfg, fun a b e => by cases e⟩, rfl, ?_, ?_, hb0⟩
  · rw [hM]
    have hk : kQuery ⟨cs, ks, fs, none⟩ true = kBy cs ++ (.w Pq.wOrder :: (kJoin (ks.map kCol) ++ (.w Pq.wShow :: (kJoin (fs.map kFn) ++ [])))) := rfl
    rw [hk, List.append_nil]
    exact hw.app ((Wr.word l [111, 114, 100, 101, 114] _).one (hwk.app (hwy.one ((Wr.eat y l).app hwf))))
  · rw [hM]
    exact ((hLs.eat l).funsTo l _).mono (by omega)
end Pk
end Go.Proofs.YtcoofnhdbejnpaaGreatDoor

/- Plain functions: no value is as low as a none. -/
namespace Go.Proofs.YtcoofnhdbejnpaaGreatDoor
namespace Pk
open Pv (R3 Chg)
theorem inside_mem (ks : List (Nat × Bool)) (f : Pq.Frame) (n : Int) (x : R3) (i : Int) : ∀ (l : List Pv.Cpy) (k : Int), (∀ r ∈ Pv.insideF ks f n x i k l, ∃ y ∈ l, y.1 = r) ∧ (Pv.insideF ks f n x i k l).length ≤ l.length
  | [], _ => by simp [Pv.insideF]
  | y :: l, k => by
    have ih := inside_mem ks f n x i l (k + 1)
    rw [Pv.insideF]
    split
    · refine ⟨fun r hr => ?_, by simp; exact ih.2⟩
      rcases List.mem_cons.1 hr with rfl | hr
      · exact ⟨y, by simp, rfl⟩
      · obtain ⟨z, hz, e⟩ := ih.1 r hr
        exact ⟨z, by simp [hz], e⟩
    · refine ⟨fun r hr => ?_, by simp; have := ih.2; omega⟩
      obtain ⟨z, hz, e⟩ := ih.1 r hr
      exact ⟨z, by simp [hz], e⟩
theorem sumC_bd (c : Nat) : ∀ (l : List R3), (∀ r ∈ l, -1000 ≤ Pv.colV c r) → -1000 * (l.length : Int) ≤ Pv.sumC c l
  | [], _ => by simp [Pv.sumC]
  | r :: l, h => by
    have ih := sumC_bd c l (fun x hx => h x (by simp [hx]))
    have hr := h r (by simp)
    simp only [Pv.sumC, List.map_cons, List.sum_cons, List.length_cons] at ih ⊢
    omega
theorem minC_bd (c : Nat) : ∀ (l : List R3) (m : Int), -1000 ≤ m → (∀ r ∈ l, -1000 ≤ Pv.colV c r) → -1000 ≤ Pv.minC c m l
  | [], m, hm, _ => hm
  | r :: l, m, hm, h => by
    rw [Pv.minC]
    refine minC_bd c l _ ?_ (fun x hx => h x (by simp [hx]))
    have hr := h r (by simp)
    split <;> omega
theorem maxC_bd (c : Nat) : ∀ (l : List R3) (m : Int), -1000 ≤ m → -1000 ≤ Pv.maxC c m l
  | [], m, hm => hm
  | r :: l, m, hm => by
    rw [Pv.maxC]
    refine maxC_bd c l _ ?_
    split <;> omega
theorem groups_pos (ks : List (Nat × Bool)) : ∀ l : List Pv.Cpy, 1 ≤ Pv.groupsF ks l
  | [] => by simp [Pv.groupsF]
  | [_] => by simp [Pv.groupsF]
  | a :: b :: l => by
    have ih := groups_pos ks (b :: l)
    rw [Pv.groupsF]
    split <;> omega
theorem tileG_pos (i n m : Int) (hm : 0 ≤ m) : ∀ (f : Nat) (t e : Int), 0 ≤ t → 0 ≤ Pv.tileG i n m f t e
  | 0, _, _, _ => hm
  | f + 1, t, e, ht => by
    rw [Pv.tileG]
    generalize (if t ≤ n % m then (1 : Int) else 0) = z
    split
    · exact ht
    · exact tileG_pos i n m hm f (t + 1) _ (by omega)
/-- what a FUNC is worth is no lower than this -/
theorem value_low (ks : List (Nat × Bool)) (l : List R3) (f : Pq.Fn) (i : Nat) (hl : l.length ≤ 4000) (hr : ∀ r ∈ l, ∀ c, -1000 ≤ Pv.colV c r) (hn : 0 ≤ f.num) (v : Int) (hv : Pv.valR ks l f i = some v) : noneV < v := by
  have hcp : ∀ y ∈ Pv.cp l, y.1 ∈ l := fun y hy => by
    obtain ⟨r, hr, rfl⟩ := List.mem_map.1 hy
    exact hr
  have hlen : (Pv.cp l).length = l.length := by simp [Pv.cp]
  unfold Pv.valR Pv.valueF at hv
  generalize Pv.cp l = q at *
  have hno : noneV = -1099511627776 := rfl
  cases hq : q[i - 1]? with
  | none => rw [hq] at hv; simp at hv
  | some x =>
    rw [hq] at hv
    simp only [] at hv
    split at hv
    · cases hv; omega
    · split at hv
      · cases hv; omega
      · split at hv
        · have := groups_pos ks (q.take i)
          cases hv; omega
        · split at hv
          · have := tileG_pos i q.length f.num hn f.num.toNat 1 0 (by omega)
            unfold Pv.tileF at hv
            cases hv; omega
          · split at hv
            · generalize (if f.kind = 4 then (i : Int) - f.num else (i : Int) + f.num) = jj at hv
              split at hv
              · cases hv
              · cases hz : q[(jj - 1).toNat]? with
                | none => rw [hz] at hv; simp at hv
                | some y =>
                  rw [hz] at hv
                  have hy := hr y.1 (hcp y (List.mem_of_getElem? hz)) f.col
                  simp at hv
                  omega
            · have hm := inside_mem ks f.frame q.length x.1 i q 1
              generalize Pv.insideF ks f.frame q.length x.1 i 1 q = z at *
              have hzr : ∀ r ∈ z, -1000 ≤ Pv.colV f.col r := fun r hrz => by
                obtain ⟨y, hy, e⟩ := hm.1 r hrz
                rw [← e]
                exact hr y.1 (hcp y hy) f.col
              unfold Pv.overF at hv
              split at hv
              · cases hv; omega
              · cases z with
                | nil => simp at hv
                | cons r z =>
                  simp only [] at hv
                  have h0 := hzr r (by simp)
                  split at hv
                  · have := sumC_bd f.col (r :: z) hzr
                    have := hm.2
                    cases hv; omega
                  · split at hv
                    · have := minC_bd f.col (r :: z) (Pv.colV f.col r) h0 hzr
                      cases hv; omega
                    · split at hv
                      · have := maxC_bd f.col (r :: z) (Pv.colV f.col r) h0
                        cases hv; omega
                      · split at hv
                        · cases hv; omega
                        · have := hzr _ (List.getLast_mem (l := r :: z) (by simp))
                          cases hv; omega
theorem shownG_vals (q : Pv.Qry) (l : List R3) : ∀ (m : List R3) (i : Nat), ∀ o ∈ Pv.shownG q l i m, ∃ j, o.2.1 = q.fs.map (fun f => Pv.valR q.ks l f j)
  | [], _, o, h => by simp [Pv.shownG] at h
  | x :: m, i, o, h => by
    rw [Pv.shownG] at h
    split at h
    · rcases List.mem_cons.1 h with rfl | h
      · exact ⟨i, rfl⟩
      · exact shownG_vals q l m (i + 1) o h
    · exact shownG_vals q l m (i + 1) o h
theorem len_le_sum : ∀ (all : List (List R3)) (l : List R3), l ∈ all → l.length ≤ (all.map List.length).sum
  | [], l, h => by simp at h
  | a :: all, l, h => by
    rw [List.map_cons, List.sum_cons]
    rcases List.mem_cons.1 h with rfl | h
    · omega
    · have := len_le_sum all l h
      omega
/-- the line of a row that is in the table: its rows are the table's, and it is short -/
theorem line_ok {ks : List (Nat × Bool)} {cs : List Nat} {t : List Chg} (ht : Pv.TInv t) {r : R3} (hr : 0 < Pv.sumOf t r) : (Pv.lineR ks cs t r).length ≤ 40 ∧ ∀ x ∈ Pv.lineR ks cs t r, Pv.rowOk x = true := by
  have hL := Pv.LInv.lines ks cs _ t rfl ht.pos
  obtain ⟨l, hl, hrl⟩ := (hL.has r).1 hr
  have e := hL.line ht.tab (fun c hc => by have := ht.pos c hc; omega) hl hrl
  have h1 := len_le_sum _ l hl
  have h2 := lines_tot ks cs t [] (fun c hc => by have := ht.pos c hc; omega)
  have h3 := ht.tot
  refine ⟨?_, fun x hx => ?_⟩
  · rw [← e]
    unfold Pv.linesP at h1
    simp only [List.map_nil, List.sum_nil] at h2
    omega
  · have hc := Pv.lineR_count ks (cs := cs) ht.tab (fun c hc => by have := ht.pos c hc; omega) r x
    have hp := List.count_pos_iff.2 hx
    rw [hc] at hp
    have hs : 0 < Pv.sumOf t x := by
      split at hp
      · omega
      · omega
    obtain ⟨c, hcm, rfl⟩ := List.mem_map.1 ((Pv.sum_pos_iff ht.pos x).1 hs)
    exact ht.row c hcm
theorem cnt_vals {q : Pv.Qry} {t : List Chg} (ht : Pv.TInv t) (hf : ∀ f ∈ q.fs, 0 ≤ f.num) {k : Pv.Key} (h : Pv.cntT q t k ≠ 0) : VB k.2 := by
  unfold Pv.cntT at h
  split at h
  · rename_i hs
    obtain ⟨o, ho, e⟩ := Pv.sum_mem h
    obtain ⟨j, ej⟩ := shownG_vals q _ _ 1 o ho
    have hl := line_ok (ks := q.ks) (cs := q.cs) ht hs
    intro v hv m hm
    rw [← e] at hv
    have hv2 : v ∈ q.fs.map (fun f => Pv.valR q.ks (Pv.lineR q.ks q.cs t k.1) f j) := by rw [← ej]; exact hv
    obtain ⟨f, hfm, rfl⟩ := List.mem_map.1 hv2
    exact value_low q.ks _ f j (by have := hl.1; omega) (fun r hr c => (Pv.colV_bd (hl.2 r hr) c).1) (hf f hfm) m hm
  · exact absurd rfl h
theorem rows_vb {q : Pv.Qry} {t : List Chg} (ht : Pv.TInv t) (hf : ∀ f ∈ q.fs, 0 ≤ f.num) : ∀ x ∈ Pv.rowsF q t, VB x.2.1 := fun x hx => by
  have h := rows_spec (q := q) ht
  have e := Pv.one_sum h.1.one hx
  rw [h.2.2] at e
  exact cnt_vals ht hf (k := Pv.keyO x) (by rw [e]; exact (h.2.1 x hx).1)
theorem applied_vb {q : Pv.Qry} {t b : List Chg} (ht : Pv.TInv t) (h0 : (Pv.refusedF t b).1 = 0) (hf : ∀ f ∈ q.fs, 0 ≤ f.num) : ∀ x ∈ Pv.appliedF q t b, VB x.2.1 := fun x hx => by
  have h := applied_spec (q := q) ht h0
  have e := Pv.one_sum h.1.one hx
  rw [h.2.2] at e
  have hne := (h.2.1 x hx).1
  by_cases h1 : Pv.cntT q t (Pv.keyO x) = 0
  · exact cnt_vals (ht.next h0).1 hf (k := Pv.keyO x) (by omega)
  · exact cnt_vals ht hf (k := Pv.keyO x) h1
theorem rows_nn {q : Pv.Qry} {t : List Chg} (ht : Pv.TInv t) : ∀ x ∈ Pv.rowsF q t, 0 ≤ x.2.2 := fun x hx => by
  have h := rows_spec (q := q) ht
  have e := Pv.one_sum h.1.one hx
  rw [h.2.2] at e
  rw [← e]
  unfold Pv.cntT
  split
  · exact (ones_sum (fun o ho => (Pv.shownG_row q _ _ 1 o ho).2.2)).1 _
  · omega
end Pk
end Go.Proofs.YtcoofnhdbejnpaaGreatDoor

/- Plain mathematics: a query of the maker's and its plain form, read as the same. -/
namespace Go.Proofs.YtcoofnhdbejnpaaGreatDoor
namespace Pk
open Pq (Bytes Tok PS)
theorem of_wr {q : Ast} (hq : GoodAst q) {full : Bool} {y : TS} (h : Wr (kQuery q full) ⟨0, [], []⟩ y) (hl : y.raw.length ≤ 300) : Pq.readE y.raw = 0 ∧ ∃ n, Pq.endPS y.raw = astPS q n full := by
  obtain ⟨h1, h2⟩ := read_toks h (adj_query hq full)
  have h3 := query_ok y.raw.length hq h2
  have he : Pq.endPS y.raw = astPS q (Pq.toksOf y.raw).length full := h3
  refine ⟨?_, _, he⟩
  rw [(Pq.readE_ok (by omega) h1).1, he]
  simp [Pq.faultE, astPS]
/-- a text and its plain form, both read as q -/
def Reads (x : TS) (q : Ast) : Prop := GoodAst q ∧ (Pq.readE x.raw = 0 ∧ ∃ n, Pq.endPS x.raw = astPS q n true) ∧ (Pq.readE x.plain = 0 ∧ ∃ n, Pq.endPS x.plain = astPS q n (fullOf q)) ∧ Ln 300 x
theorem ast_both {q : Ast} (hq : GoodAst q) {x y : TS} (h : Wr (kQuery q true) ⟨0, [], []⟩ y) (hr : x.raw = y.raw) (hp : x.plain = plainOf [] (kQuery q (fullOf q))) (hl : Ln 300 x) : Reads x q := by
  have h1 := of_wr hq h (by rw [← hr]; exact hl.1)
  have h2 := of_wr hq (full := fullOf q) (canon_wr (kQuery q (fullOf q)) []) (by rw [← hp]; exact hl.2)
  rw [← hr] at h1
  simp only [← hp] at h2
  exact ⟨hq, h1, h2, hl⟩
theorem reads_full (l : Bytes) (b t : Bool) : ∃ q, Reads (queryS l b t) q ∧ (queryS l b t).plain = plainOf [] (kQuery q (fullOf q)) ∧ (b = false → q.by' = []) ∧ (t = false → q.top = none) ∧ (t = true → ∃ a c, q.top = some (a, c)) ∧ Ln 280 (queryS l b t) ∧ (t = false → Ln 261 (queryS l b t)) := by
  obtain ⟨q, hq, hnone, hw, hL, hb0⟩ := main_by l b
  cases t with
  | false =>
    have e : queryS l b false = mainS l b ⟨0, [], []⟩ := rfl
    rw [e]
    have hf : fullOf q = true := by unfold fullOf; rw [hnone]
    have hp : (mainS l b ⟨0, [], []⟩).plain = plainOf [] (kQuery q (fullOf q)) := by
      obtain ⟨I, hE⟩ := hw
      rw [hE.plain, hf]
    exact ⟨q, ast_both hq hw rfl hp (hL.mono (by omega)), hp, hb0, (fun _ => hnone), (fun e => by cases e), hL.mono (by omega), fun _ => hL⟩
  | true =>
    have e : queryS l b true = topS l (mainS l b ⟨0, [], []⟩) := rfl
    rw [e]
    generalize mainS l b ⟨0, [], []⟩ = m at *
    have hT : topS l m = top4 l (numberS l (nxt l (wordS l [116, 111, 112] m).a 6) true ((wordS l [116, 111, 112] m).eat l)) := rfl
    have ha := nxt_lt l (wordS l [116, 111, 112] m).a 6 (by omega)
    have w1 := (Wr.word l [116, 111, 112] m).one ((Wr.eat _ l).app (Wr.number l (nxt l (wordS l [116, 111, 112] m).a 6) true ((wordS l [116, 111, 112] m).eat l)))
    have L1 := ((hL.word l [116, 111, 112] (k := 3) (by simp)).eat l).number l (nxt l (wordS l [116, 111, 112] m).a 6) true
    rw [hT]
    generalize nxt l (wordS l [116, 111, 112] m).a 6 = a at *
    generalize numberS l a true ((wordS l [116, 111, 112] m).eat l) = z at *
    have hb := nxt_lt l z.a 3 (by omega)
    have w2 : Wr [.w Pq.wFrom, .n (nxt l z.a 3) true] z (top5 l z) := (Wr.eat z l).app ((Wr.word l [102, 114, 111, 109] _).one (Wr.number l (nxt l z.a 3) true _))
    have L2 : Ln 280 (top5 l z) := (((L1.eat l).word l [102, 114, 111, 109] (k := 4) (by simp)).number l (nxt l z.a 3) true).mono (by omega)
    have hT4 : top4 l z = if nxt l z.a 3 = 0 then { top5 l z with plain := (top5 l z).plain.take ((top5 l z).plain.length - 7) } else top5 l z := rfl
    rw [hT4]
    generalize nxt l z.a 3 = c at *
    generalize top5 l z = u at *
    have hq' : GoodAst ⟨q.by', q.keys, q.funcs, some (a, c)⟩ := ⟨hq.byN, hq.byL, hq.keys, hq.fne, hq.fl, hq.fg, fun x y e => by simp at e; omega⟩
    have hk : ∀ full, kQuery ⟨q.by', q.keys, q.funcs, some (a, c)⟩ full = kQuery q true ++ (.w Pq.wTop :: .n a true :: (if full then [.w Pq.wFrom, .n c true] else [])) := by
      intro full
      unfold kQuery
      rw [hnone]
      simp [kTop]
    have hW : Wr (kQuery ⟨q.by', q.keys, q.funcs, some (a, c)⟩ true) ⟨0, [], []⟩ u := by
      rw [hk true]
      have := (hw.app w1).app w2
      simpa [Pq.wTop] using this
    have hplain : u.plain = plainOf [] (kQuery ⟨q.by', q.keys, q.funcs, some (a, c)⟩ true) := by
      obtain ⟨I, hE⟩ := hW
      exact hE.plain
    by_cases hc : c = 0
    · rw [if_pos hc]
      subst hc
      have hf : fullOf ⟨q.by', q.keys, q.funcs, some (a, 0)⟩ = false := rfl
      have hsplit : u.plain = plainOf [] (kQuery ⟨q.by', q.keys, q.funcs, some (a, 0)⟩ false) ++ [32, 102, 114, 111, 109, 32, 48] := by
        rw [hplain, hk true, hk false]
        have e2 : (kQuery q true ++ (.w Pq.wTop :: .n a true :: (if true = true then [.w Pq.wFrom, .n 0 true] else []))) = (kQuery q true ++ (.w Pq.wTop :: .n a true :: (if false = true then [.w Pq.wFrom, .n 0 true] else []))) ++ [.w Pq.wFrom, .n 0 true] := by simp
        rw [e2, plainOf_app, plainOf_w, plainOf_n, plainOf_nil]
        · simp [Pq.wFrom, Pq.numTxt]
        · rw [plainOf_app, plainOf]
          refine pl_ne ?_ _
          simp [Kd.ptext, Pq.wTop]
      have hp : ({ u with plain := u.plain.take (u.plain.length - 7) } : TS).plain = plainOf [] (kQuery ⟨q.by', q.keys, q.funcs, some (a, 0)⟩ (fullOf ⟨q.by', q.keys, q.funcs, some (a, 0)⟩)) := by
        rw [hf]
        show u.plain.take (u.plain.length - 7) = _
        rw [hsplit]
        simp
      have hl : Ln 300 { u with plain := u.plain.take (u.plain.length - 7) } := ⟨Nat.le_trans L2.1 (by omega), by
        show (u.plain.take (u.plain.length - 7)).length ≤ 300
        have := L2.2
        simp; omega⟩
      exact ⟨_, ast_both hq' (x := { u with plain := u.plain.take (u.plain.length - 7) }) hW rfl hp hl, hp, hb0, (fun e => by cases e), (fun _ => ⟨_, _, rfl⟩), ⟨L2.1, by show (u.plain.take (u.plain.length - 7)).length ≤ 280; have := L2.2; simp; omega⟩, fun e => by cases e⟩
    · rw [if_neg hc]
      have hf : fullOf ⟨q.by', q.keys, q.funcs, some (a, c)⟩ = true := by simp [fullOf, hc]
      exact ⟨_, ast_both hq' hW rfl (by rw [hf]; exact hplain) (L2.mono (by omega)), (by rw [hf]; exact hplain), hb0, (fun e => by cases e), (fun _ => ⟨_, _, rfl⟩), L2, fun e => by cases e⟩
end Pk
end Go.Proofs.YtcoofnhdbejnpaaGreatDoor

