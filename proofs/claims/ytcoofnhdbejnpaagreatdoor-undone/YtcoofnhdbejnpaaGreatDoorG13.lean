/- Plain mathematics: a query of the maker's, with top or without. -/
import Derived.Test.YtcoofnhdbejnpaaGreatDoorG12
namespace Go.Proofs.YtcoofnhdbejnpaaGreatDoor
namespace Pk
open Pq (Bytes Tok PS)
theorem plan_both {q : Ast} (hq : GoodAst q) {x y : TS} (h : Wr (kQuery q true) ⟨0, [], []⟩ y) (hr : x.raw = y.raw) (hp : x.plain = plainOf [] (kQuery q (fullOf q))) (hl : Ln 300 x) :
    (Pq.readE x.raw = 0 ∧ Pq.plainTxt (Pq.endPS x.raw) = x.plain) ∧ (Pq.readE x.plain = 0 ∧ Pq.plainTxt (Pq.endPS x.plain) = x.plain) := by
  have h1 := plan_of hq (.inl rfl) h (by rw [← hr]; exact hl.1)
  have h2 := plan_of hq (full := fullOf q) (.inr rfl) (canon_wr (kQuery q (fullOf q)) []) (by rw [← hp]; exact hl.2)
  rw [hr]
  simp only [← hp] at h1 h2
  exact ⟨h1, h2⟩
theorem plain_math (l : Bytes) (b t : Bool) : (Pq.readE (queryS l b t).raw = 0 ∧ Pq.plainTxt (Pq.endPS (queryS l b t).raw) = (queryS l b t).plain) ∧ (Pq.readE (queryS l b t).plain = 0 ∧ Pq.plainTxt (Pq.endPS (queryS l b t).plain) = (queryS l b t).plain) ∧ Ln 300 (queryS l b t) := by
  obtain ⟨q, hq, hnone, hw, hL⟩ := main_wr l b
  cases t with
  | false =>
    have e : queryS l b false = mainS l b ⟨0, [], []⟩ := rfl
    rw [e]
    have hf : fullOf q = true := by unfold fullOf; rw [hnone]
    have hp : (mainS l b ⟨0, [], []⟩).plain = plainOf [] (kQuery q (fullOf q)) := by
      obtain ⟨I, hE⟩ := hw
      rw [hE.plain, hf]
    have := plan_both hq hw rfl hp (hL.mono (by omega))
    exact ⟨this.1, this.2, hL.mono (by omega)⟩
  | true =>
    have e : queryS l b true = topS l (mainS l b ⟨0, [], []⟩) := rfl
    rw [e]
    generalize mainS l b ⟨0, [], []⟩ = m at *
    have hT : topS l m = top4 l (numberS l (nxt l (wordS l [116, 111, 112] m).a 6) true ((wordS l [116, 111, 112] m).eat l)) := rfl
    have ha := nxt_lt l (wordS l [116, 111, 112] m).a 6 (by omega)
    have w1 := (Wr.word l [116, 111, 112] m).one ((Wr.eat _ l).app (Wr.number l (nxt l (wordS l [116, 111, 112] m).a 6) true ((wordS l [116, 111, 112] m).eat l)))
    have L1 := ((hL.word l [116, 111, 112] (k := 3) (by simp)).eat l).number l (nxt l (wordS l [116, 111, 112] m).a 6) true
    rw [hT]
    generalize nxt l (wordS l [116, 111, 112] m).a 6 = a at *
    generalize numberS l a true ((wordS l [116, 111, 112] m).eat l) = z at *
    have hb := nxt_lt l z.a 3 (by omega)
    have w2 : Wr [.w Pq.wFrom, .n (nxt l z.a 3) true] z (top5 l z) := (Wr.eat z l).app ((Wr.word l [102, 114, 111, 109] _).one (Wr.number l (nxt l z.a 3) true _))
    have L2 : Ln 280 (top5 l z) := (((L1.eat l).word l [102, 114, 111, 109] (k := 4) (by simp)).number l (nxt l z.a 3) true).mono (by omega)
    have hT4 : top4 l z = if nxt l z.a 3 = 0 then { top5 l z with plain := (top5 l z).plain.take ((top5 l z).plain.length - 7) } else top5 l z := rfl
    rw [hT4]
    generalize nxt l z.a 3 = c at *
    generalize top5 l z = u at *
    have hq' : GoodAst ⟨q.by', q.keys, q.funcs, some (a, c)⟩ := ⟨hq.byN, hq.byL, hq.keys, hq.fne, hq.fl, hq.fg, fun x y e => by simp at e; omega⟩
    have hk : ∀ full, kQuery ⟨q.by', q.keys, q.funcs, some (a, c)⟩ full = kQuery q true ++ (.w Pq.wTop :: .n a true :: (if full then [.w Pq.wFrom, .n c true] else [])) := by
      intro full
      unfold kQuery
      rw [hnone]
      simp [kTop]
    have hW : Wr (kQuery ⟨q.by', q.keys, q.funcs, some (a, c)⟩ true) ⟨0, [], []⟩ u := by
      rw [hk true]
      have := (hw.app w1).app w2
      simpa [Pq.wTop] using this
    have hplain : u.plain = plainOf [] (kQuery ⟨q.by', q.keys, q.funcs, some (a, c)⟩ true) := by
      obtain ⟨I, hE⟩ := hW
      exact hE.plain
    by_cases hc : c = 0
    · rw [if_pos hc]
      subst hc
      have hf : fullOf ⟨q.by', q.keys, q.funcs, some (a, 0)⟩ = false := rfl
      have hsplit : u.plain = plainOf [] (kQuery ⟨q.by', q.keys, q.funcs, some (a, 0)⟩ false) ++ [32, 102, 114, 111, 109, 32, 48] := by
        rw [hplain, hk true, hk false]
        have e2 : (kQuery q true ++ (.w Pq.wTop :: .n a true :: (if true = true then [.w Pq.wFrom, .n 0 true] else []))) = (kQuery q true ++ (.w Pq.wTop :: .n a true :: (if false = true then [.w Pq.wFrom, .n 0 true] else []))) ++ [.w Pq.wFrom, .n 0 true] := by simp
        rw [e2, plainOf_app, plainOf_w, plainOf_n, plainOf_nil]
        · simp [Pq.wFrom, Pq.numTxt]
        · rw [plainOf_app, plainOf]
          refine pl_ne ?_ _
          simp [Kd.ptext, Pq.wTop]
      have hp : ({ u with plain := u.plain.take (u.plain.length - 7) } : TS).plain = plainOf [] (kQuery ⟨q.by', q.keys, q.funcs, some (a, 0)⟩ (fullOf ⟨q.by', q.keys, q.funcs, some (a, 0)⟩)) := by
        rw [hf]
        show u.plain.take (u.plain.length - 7) = _
        rw [hsplit]
        simp
      have hl : Ln 300 { u with plain := u.plain.take (u.plain.length - 7) } := ⟨Nat.le_trans L2.1 (by omega), by
        show (u.plain.take (u.plain.length - 7)).length ≤ 300
        have := L2.2
        simp; omega⟩
      have := plan_both hq' (x := { u with plain := u.plain.take (u.plain.length - 7) }) hW rfl hp hl
      exact ⟨this.1, this.2, hl⟩
    · rw [if_neg hc]
      have hf : fullOf ⟨q.by', q.keys, q.funcs, some (a, c)⟩ = true := by simp [fullOf, hc]
      have := plan_both hq' hW rfl (by rw [hf]; exact hplain) (L2.mono (by omega))
      exact ⟨this.1, this.2, L2.mono (by omega)⟩
end Pk
end Go.Proofs.YtcoofnhdbejnpaaGreatDoor

