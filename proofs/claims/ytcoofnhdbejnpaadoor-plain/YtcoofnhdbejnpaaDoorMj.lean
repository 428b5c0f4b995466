/- Plain mathematics: a query of the maker's has its plain form, which is its own. -/
import Derived.Test.YtcoofnhdbejnpaaDoorMi
namespace Go.Proofs.YtcoofnhdbejnpaaDoor
namespace Pk
open Pq (Bytes Tok PS)
theorem canon_wr : ∀ (ks : List Kd) (p : Bytes), Wr ks ⟨0, p, p⟩ ⟨0, plainOf p ks, plainOf p ks⟩
  | [], p => Wr.nil _
  | k :: ks, p => by
    have ih := canon_wr ks (p ++ k.psep p.isEmpty ++ k.ptext)
    have h1 : Wr [k] ⟨0, p, p⟩ ⟨0, p ++ k.psep p.isEmpty ++ k.ptext, p ++ k.psep p.isEmpty ++ k.ptext⟩ := by
      refine ⟨[(k.psep p.isEmpty, k.ptext)], .cons ?_ ?_ rfl rfl (.nil rfl rfl)⟩
      · have h32 : Pq.isBlk 32 = true := by decide
        induction k using Kd_ind with
        | w t => cases hp : p.isEmpty <;> simp [Kd.Sep, Kd.psep, h32]
        | g t => simp [Kd.Sep, Kd.psep]
        | n a b => cases b <;> simp [Kd.Sep, Kd.psep, h32]
      · induction k using Kd_ind with
        | w t => rfl
        | g t => rfl
        | n a b => exact .inl rfl
    exact h1.app ih
def fullOf (q : Ast) : Bool := match q.top with | some (_, b) => decide (b ≠ 0) | none => true
theorem pl_ne {p : Bytes} (hp : p ≠ []) : ∀ ks, plainOf p ks ≠ []
  | [] => hp
  | k :: ks => pl_ne (by simp [hp]) ks
theorem pl_query {q : Ast} (hq : GoodAst q) (n : Nat) (full : Bool) (hfull : full = true ∨ full = fullOf q) : Pq.plainTxt (astPS q n full) = plainOf [] (kQuery q (fullOf q)) := by
  have hw0 : ∀ (t : Bytes) (r : List Kd), plainOf [] (.w t :: r) = plainOf t r := fun t r => by simp [plainOf, Kd.psep, Kd.ptext]
  have hrest : ∀ p : Bytes, p ≠ [] → plainOf p (kJoin (q.keys.map kCol) ++ (.w Pq.wShow :: (kJoin (q.funcs.map kFn) ++ kTop q.top (fullOf q)))) = p ++ 32 :: Pq.keysTxt q.keys ++ (32 :: Pq.wShow ++ 32 :: Pq.fnsTxt q.funcs) ++ Pq.topTxt (astPS q n full) := by
    intro p hp
    rw [plainOf_app, pl_join kCol Pq.keyTxt q.keys p hq.keys.ne hp (fun x _ p hp => pl_col hp x), plainOf_w (by simp), plainOf_app,
      pl_join kFn Pq.fnTxt q.funcs _ hq.fne (by simp) (fun x hx p hp => pl_fn hp (hq.fg x hx))]
    have ht : ∀ p : Bytes, p ≠ [] → plainOf p (kTop q.top (fullOf q)) = p ++ Pq.topTxt (astPS q n full) := by
      intro p hp
      unfold kTop fullOf Pq.topTxt astPS
      split
      · rename_i e; simp [e, plainOf_nil]
      · rename_i a b e
        simp only [e, plainOf_w hp, plainOf_n]
        by_cases hb : b = 0
        · subst hb
          rcases hfull with rfl | rfl <;> simp [fullOf, e, plainOf_nil]
        · have hf : full = true := by
            rcases hfull with h | h
            · exact h
            · rw [h]; simp [fullOf, e, hb]
          subst hf
          have h2 : p ++ 32 :: Pq.wTop ++ 32 :: Pq.numTxt (a : Int) ≠ [] := by simp
          simp only [decide_not, Option.isSome_some, if_true]
          simp only [show (!decide (b = 0)) = true by simp [hb], if_true]
          rw [plainOf_w h2, plainOf_n, plainOf_nil]
          rw [if_pos (by omega)]
          simp
    rw [ht _ (by simp)]
    simp [Pq.keysTxt, Pq.fnsTxt]
  unfold kQuery kBy
  split
  · rename_i he
    rw [List.nil_append, hw0, hrest _ (by decide)]
    unfold Pq.plainTxt Pq.byTxt
    simp [astPS, he]
  · rename_i hne
    rw [List.cons_append, hw0, plainOf_app, pl_join (fun c => kCol (c, false)) Pq.colTxt q.by' _ hne (by decide) (fun x _ p hp => by rw [pl_col hp]; rfl), plainOf_w (by simp), hrest _ (by simp)]
    have hl : q.by'.length ≠ 0 := by intro e; exact hne (List.eq_nil_of_length_eq_zero e)
    unfold Pq.plainTxt Pq.byTxt
    simp [astPS, hl, Pq.colsTxt]
/-- a text that was written as the tokens of a query has its plain form -/
theorem plan_of {q : Ast} (hq : GoodAst q) {full : Bool} (hfull : full = true ∨ full = fullOf q) {y : TS} (h : Wr (kQuery q full) ⟨0, [], []⟩ y) (hl : y.raw.length ≤ 300) :
    Pq.readE y.raw = 0 ∧ Pq.plainTxt (Pq.endPS y.raw) = plainOf [] (kQuery q (fullOf q)) := by
  obtain ⟨h1, h2⟩ := read_toks h (adj_query hq full)
  have h3 := query_ok y.raw.length hq h2
  have he : Pq.endPS y.raw = astPS q (Pq.toksOf y.raw).length full := h3
  refine ⟨?_, ?_⟩
  · rw [(Pq.readE_ok (by omega) h1).1, he]
    simp [Pq.faultE, astPS]
  · rw [he]; exact pl_query hq _ full hfull
theorem Ln.colsToF {n : Nat} {x : TS} (h : Ln n x) (l : Bytes) (a : Nat) : ∀ k, Ln (n + 6 * k) (Pk.colsTo l false a k x)
  | 0 => h
  | k + 1 => (((Ln.colsToF h l a k).comma l k).word l (colW (a + k)) (k := 1) (by rw [colW_len]; omega)).mono (by omega)
theorem Ln.colsF {n : Nat} {x : TS} (h : Ln n x) (l : Bytes) : Ln (n + 18) (Pk.colsS l false x) := by
  have := nxt_lt l (adv l x.a) 3 (by omega)
  exact (Ln.colsToF (((h.eat l).eat l)) l _ _).mono (by omega)
theorem main_wr (l : Bytes) (b : Bool) : ∃ q : Ast, GoodAst q ∧ q.top = none ∧ Wr (kQuery q true) ⟨0, [], []⟩ (mainS l b ⟨0, [], []⟩) ∧ Ln 261 (mainS l b ⟨0, [], []⟩) := by
  have hby : ∃ cs : List Nat, cs.Nodup ∧ (∀ c ∈ cs, c < 3) ∧ Wr (kBy cs) ⟨0, [], []⟩ (byS l b ⟨0, [], []⟩) ∧ Ln 23 (byS l b ⟨0, [], []⟩) := by
    have h0 : Ln 0 ⟨0, [], []⟩ := ⟨Nat.le_refl _, Nat.le_refl _⟩
    cases b
    · exact ⟨[], List.nodup_nil, (fun c hc => by cases hc), Wr.nil _, h0.mono (by omega)⟩
    · obtain ⟨cs, hg, hd, hw⟩ := cols_wr l false (wordS l [98, 121] ⟨0, [], []⟩)
      have hne : cs.map Prod.fst ≠ [] := by have := hg.ne; simp [this]
      refine ⟨cs.map Prod.fst, hg.nodup, ?_, ?_, ((h0.word l [98, 121] (k := 2) (by simp)).colsF l).mono (by omega)⟩
      · intro c hc; obtain ⟨x, hx, rfl⟩ := List.mem_map.1 hc; exact hg.lt x hx
      · unfold kBy
        rw [if_neg hne]
        have e : (cs.map Prod.fst).map (fun c => kCol (c, false)) = cs.map kCol := by
          rw [List.map_map]
          refine List.map_congr_left (fun x hx => ?_)
          have := hd rfl x hx
          show kCol (x.1, false) = kCol x
          rw [← this]
        rw [e]
        exact (Wr.word l [98, 121] _).one hw
  obtain ⟨cs, hn, hlt, hw, hL⟩ := hby
  obtain ⟨ks, hg, _, hwk⟩ := cols_wr l true (wordS l [111, 114, 100, 101, 114] (byS l b ⟨0, [], []⟩))
  have hLs := (((hL.word l [111, 114, 100, 101, 114] (k := 5) (by simp)).cols l true).word l [115, 104, 111, 119] (k := 4) (by simp))
  have hM : mainS l b ⟨0, [], []⟩ = funsTo l (1 + nxt l (wordS l [115, 104, 111, 119] (colsS l true (wordS l [111, 114, 100, 101, 114] (byS l b ⟨0, [], []⟩)))).a 4) ((wordS l [115, 104, 111, 119] (colsS l true (wordS l [111, 114, 100, 101, 114] (byS l b ⟨0, [], []⟩)))).eat l) := rfl
  have hwy := Wr.word l [115, 104, 111, 119] (colsS l true (wordS l [111, 114, 100, 101, 114] (byS l b ⟨0, [], []⟩)))
  generalize wordS l [115, 104, 111, 119] (colsS l true (wordS l [111, 114, 100, 101, 114] (byS l b ⟨0, [], []⟩))) = y at *
  have hn4 := nxt_lt l y.a 4 (by omega)
  obtain ⟨fs, hfl, hfg, hwf⟩ := funs_to l (y.eat l) (1 + nxt l y.a 4)
  refine ⟨⟨cs, ks, fs, none⟩, ⟨hn, hlt, hg, by intro e; simp only at e; rw [e] at hfl; simp at hfl; omega, by simp only; omega, hfg, fun a b e => by cases e⟩, rfl, ?_, ?_⟩
  · rw [hM]
    have hk : kQuery ⟨cs, ks, fs, none⟩ true = kBy cs ++ (.w Pq.wOrder :: (kJoin (ks.map kCol) ++ (.w Pq.wShow :: (kJoin (fs.map kFn) ++ [])))) := rfl
    rw [hk, List.append_nil]
    exact hw.app ((Wr.word l [111, 114, 100, 101, 114] _).one (hwk.app (hwy.one ((Wr.eat y l).app hwf))))
  · rw [hM]
    exact ((hLs.eat l).funsTo l _).mono (by omega)
end Pk
end Go.Proofs.YtcoofnhdbejnpaaDoor
