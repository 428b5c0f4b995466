/- Plain mathematics: a query of the maker's has its plain form, which is its own. -/
import Derived.Test.YtcoofnhdbejnpabGreatDoorG10
import Derived.Test.YtcoofnhdbejnpabGreatDoorG06
namespace Go.Proofs.YtcoofnhdbejnpabGreatDoor
namespace Pk
open Pq (Bytes Tok PS)
theorem canon_wr : ∀ (ks : List Kd) (p : Bytes), Wr ks ⟨0, p, p⟩ ⟨0, plainOf p ks, plainOf p ks⟩
  | [], p => Wr.nil _
  | k :: ks, p => by
    have ih := canon_wr ks (p ++ k.psep p.isEmpty ++ k.ptext)
    have h1 : Wr [k] ⟨0, p, p⟩ ⟨0, p ++ k.psep p.isEmpty ++ k.ptext, p ++ k.psep p.isEmpty ++ k.ptext⟩ := by
      refine ⟨[(k.psep p.isEmpty, k.ptext)], .cons ?_ ?_ rfl rfl (.nil rfl rfl)⟩
      · have h32 : Pq.isBlk 32 = true := by decide
        induction k using Kd_ind with
        | w t => cases hp : p.isEmpty <;> simp [Kd.Sep, Kd.psep, h32]
        | g t => simp [Kd.Sep, Kd.psep]
        | n a b => cases b <;> simp [Kd.Sep, Kd.psep, h32]
      · induction k using Kd_ind with
        | w t => rfl
        | g t => rfl
        | n a b => exact .inl rfl
    exact h1.app ih
def fullOf (q : Ast) : Bool := match q.top with | some (_, b) => decide (b ≠ 0) | none => true
theorem pl_ne {p : Bytes} (hp : p ≠ []) : ∀ ks, plainOf p ks ≠ []
  | [] => hp
  | k :: ks => pl_ne (by simp [hp]) ks
theorem Ln.colsToF {n : Nat} {x : TS} (h : Ln n x) (l : Bytes) (a : Nat) : ∀ k, Ln (n + 6 * k) (Pk.colsTo l false a k x)
  | 0 => h
  | k + 1 => (((Ln.colsToF h l a k).comma l k).word l (colW (a + k)) (k := 1) (by rw [colW_len]; omega)).mono (by omega)
theorem Ln.colsF {n : Nat} {x : TS} (h : Ln n x) (l : Bytes) : Ln (n + 18) (Pk.colsS l false x) := by
  have := nxt_lt l (adv l x.a) 3 (by omega)
  exact (Ln.colsToF (((h.eat l).eat l)) l _ _).mono (by omega)
theorem main_by (l : Bytes) (b : Bool) : ∃ q : Ast, GoodAst q ∧ q.top = none ∧ Wr (kQuery q true) ⟨0, [], []⟩ (mainS l b ⟨0, [], []⟩) ∧ Ln 261 (mainS l b ⟨0, [], []⟩) ∧ (b = false → q.by' = []) := by
  have hby : ∃ cs : List Nat, cs.Nodup ∧ (∀ c ∈ cs, c < 3) ∧ Wr (kBy cs) ⟨0, [], []⟩ (byS l b ⟨0, [], []⟩) ∧ Ln 23 (byS l b ⟨0, [], []⟩) ∧ (b = false → cs = []) := by
    have h0 : Ln 0 ⟨0, [], []⟩ := ⟨Nat.le_refl _, Nat.le_refl _⟩
    cases b
    · exact ⟨[], List.nodup_nil, (fun c hc => by cases hc), Wr.nil _, h0.mono (by omega), fun _ => rfl⟩
    · obtain ⟨cs, hg, hd, hw⟩ := cols_wr l false (wordS l [98, 121] ⟨0, [], []⟩)
      have hne : cs.map Prod.fst ≠ [] := by have := hg.ne; simp [this]
      refine ⟨cs.map Prod.fst, hg.nodup, ?_, ?_, ((h0.word l [98, 121] (k := 2) (by simp)).colsF l).mono (by omega), fun e => by cases e⟩
      · intro c hc; obtain ⟨x, hx, rfl⟩ := List.mem_map.1 hc; exact hg.lt x hx
      · unfold kBy
        rw [if_neg hne]
        have e : (cs.map Prod.fst).map (fun c => kCol (c, false)) = cs.map kCol := by
          rw [List.map_map]
          refine List.map_congr_left (fun x hx => ?_)
          have := hd rfl x hx
          show kCol (x.1, false) = kCol x
          rw [← this]
        rw [e]
        exact (Wr.word l [98, 121] _).one hw
  obtain ⟨cs, hn, hlt, hw, hL, hb0⟩ := hby
  obtain ⟨ks, hg, _, hwk⟩ := cols_wr l true (wordS l [111, 114, 100, 101, 114] (byS l b ⟨0, [], []⟩))
  have hLs := (((hL.word l [111, 114, 100, 101, 114] (k := 5) (by simp)).cols l true).word l [115, 104, 111, 119] (k := 4) (by simp))
  have hM : mainS l b ⟨0, [], []⟩ = funsTo l (1 + nxt l (wordS l [115, 104, 111, 119] (colsS l true (wordS l [111, 114, 100, 101, 114] (byS l b ⟨0, [], []⟩)))).a 4) ((wordS l [115, 104, 111, 119] (colsS l true (wordS l [111, 114, 100, 101, 114] (byS l b ⟨0, [], []⟩)))).eat l) := rfl
  have hwy := Wr.word l [115, 104, 111, 119] (colsS l true (wordS l [111, 114, 100, 101, 114] (byS l b ⟨0, [], []⟩)))
  generalize wordS l [115, 104, 111, 119] (colsS l true (wordS l [111, 114, 100, 101, 114] (byS l b ⟨0, [], []⟩))) = y at *
  have hn4 := nxt_lt l y.a 4 (by omega)
  obtain ⟨fs, hfl, hfg, hwf⟩ := funs_to l (y.eat l) (1 + nxt l y.a 4)
  refine ⟨⟨cs, ks, fs, none⟩, ⟨hn, hlt, hg, by intro e; simp only at e; rw [e] at hfl; simp at hfl; omega, by simp only; omega, hfg, fun a b e => by cases e⟩, rfl, ?_, ?_, hb0⟩
  · rw [hM]
    have hk : kQuery ⟨cs, ks, fs, none⟩ true = kBy cs ++ (.w Pq.wOrder :: (kJoin (ks.map kCol) ++ (.w Pq.wShow :: (kJoin (fs.map kFn) ++ [])))) := rfl
    rw [hk, List.append_nil]
    exact hw.app ((Wr.word l [111, 114, 100, 101, 114] _).one (hwk.app (hwy.one ((Wr.eat y l).app hwf))))
  · rw [hM]
    exact ((hLs.eat l).funsTo l _).mono (by omega)
end Pk
end Go.Proofs.YtcoofnhdbejnpabGreatDoor

/- Plain mathematics: a query of the maker's and its plain form, read as the same. -/
namespace Go.Proofs.YtcoofnhdbejnpabGreatDoor
namespace Pk
open Pq (Bytes Tok PS)
theorem of_wr {q : Ast} (hq : GoodAst q) {full : Bool} {y : TS} (h : Wr (kQuery q full) ⟨0, [], []⟩ y) (hl : y.raw.length ≤ 300) : Pq.readE y.raw = 0 ∧ ∃ n, Pq.endPS y.raw = astPS q n full := by
  obtain ⟨h1, h2⟩ := read_toks h (adj_query hq full)
  have h3 := query_ok y.raw.length hq h2
  have he : Pq.endPS y.raw = astPS q (Pq.toksOf y.raw).length full := h3
  refine ⟨?_, _, he⟩
  rw [(Pq.readE_ok (by omega) h1).1, he]
  simp [Pq.faultE, astPS]
/-- a text and its plain form, both read as q -/
def Reads (x : TS) (q : Ast) : Prop := GoodAst q ∧ (Pq.readE x.raw = 0 ∧ ∃ n, Pq.endPS x.raw = astPS q n true) ∧ (Pq.readE x.plain = 0 ∧ ∃ n, Pq.endPS x.plain = astPS q n (fullOf q)) ∧ Ln 300 x
theorem ast_both {q : Ast} (hq : GoodAst q) {x y : TS} (h : Wr (kQuery q true) ⟨0, [], []⟩ y) (hr : x.raw = y.raw) (hp : x.plain = plainOf [] (kQuery q (fullOf q))) (hl : Ln 300 x) : Reads x q := by
  have h1 := of_wr hq h (by rw [← hr]; exact hl.1)
  have h2 := of_wr hq (full := fullOf q) (canon_wr (kQuery q (fullOf q)) []) (by rw [← hp]; exact hl.2)
  rw [← hr] at h1
  simp only [← hp] at h2
  exact ⟨hq, h1, h2, hl⟩
theorem reads_full (l : Bytes) (b t : Bool) : ∃ q, Reads (queryS l b t) q ∧ (queryS l b t).plain = plainOf [] (kQuery q (fullOf q)) ∧ (b = false → q.by' = []) ∧ (t = false → q.top = none) ∧ (t = true → ∃ a c, q.top = some (a, c)) ∧ Ln 280 (queryS l b t) ∧ (t = false → Ln 261 (queryS l b t)) := by
  obtain ⟨q, hq, hnone, hw, hL, hb0⟩ := main_by l b
  cases t with
  | false =>
    have e : queryS l b false = mainS l b ⟨0, [], []⟩ := rfl
    rw [e]
    have hf : fullOf q = true := by unfold fullOf; rw [hnone]
    have hp : (mainS l b ⟨0, [], []⟩).plain = plainOf [] (kQuery q (fullOf q)) := by
      obtain ⟨I, hE⟩ := hw
      rw [hE.plain, hf]
    exact ⟨q, ast_both hq hw rfl hp (hL.mono (by omega)), hp, hb0, (fun _ => hnone), (fun e => by cases e), hL.mono (by omega), fun _ => hL⟩
  | true =>
    have e : queryS l b true = topS l (mainS l b ⟨0, [], []⟩) := rfl
    rw [e]
    generalize mainS l b ⟨0, [], []⟩ = m at *
    have hT : topS l m = top4 l (numberS l (nxt l (wordS l [116, 111, 112] m).a 6) true ((wordS l [116, 111, 112] m).eat l)) := rfl
    have ha := nxt_lt l (wordS l [116, 111, 112] m).a 6 (by omega)
    have w1 := (Wr.word l [116, 111, 112] m).one ((Wr.eat _ l).app (Wr.number l (nxt l (wordS l [116, 111, 112] m).a 6) true ((wordS l [116, 111, 112] m).eat l)))
    have L1 := ((hL.word l [116, 111, 112] (k := 3) (by simp)).eat l).number l (nxt l (wordS l [116, 111, 112] m).a 6) true
    rw [hT]
    generalize nxt l (wordS l [116, 111, 112] m).a 6 = a at *
    generalize numberS l a true ((wordS l [116, 111, 112] m).eat l) = z at *
    have hb := nxt_lt l z.a 3 (by omega)
    have w2 : Wr [.w Pq.wFrom, .n (nxt l z.a 3) true] z (top5 l z) := (Wr.eat z l).app ((Wr.word l [102, 114, 111, 109] _).one (Wr.number l (nxt l z.a 3) true _))
    have L2 : Ln 280 (top5 l z) := (((L1.eat l).word l [102, 114, 111, 109] (k := 4) (by simp)).number l (nxt l z.a 3) true).mono (by omega)
    have hT4 : top4 l z = if nxt l z.a 3 = 0 then { top5 l z with plain := (top5 l z).plain.take ((top5 l z).plain.length - 7) } else top5 l z := rfl
    rw [hT4]
    generalize nxt l z.a 3 = c at *
    generalize top5 l z = u at *
    have hq' : GoodAst ⟨q.by', q.keys, q.funcs, some (a, c)⟩ := ⟨hq.byN, hq.byL, hq.keys, hq.fne, hq.fl, hq.fg, fun x y e => by simp at e; omega⟩
    have hk : ∀ full, kQuery ⟨q.by', q.keys, q.funcs, some (a, c)⟩ full = kQuery q true ++ (.w Pq.wTop :: .n a true :: (if full then [.w Pq.wFrom, .n c true] else [])) := by
      intro full
      unfold kQuery
      rw [hnone]
      simp [kTop]
    have hW : Wr (kQuery ⟨q.by', q.keys, q.funcs, some (a, c)⟩ true) ⟨0, [], []⟩ u := by
      rw [hk true]
      have := (hw.app w1).app w2
      simpa [Pq.wTop] using this
    have hplain : u.plain = plainOf [] (kQuery ⟨q.by', q.keys, q.funcs, some (a, c)⟩ true) := by
      obtain ⟨I, hE⟩ := hW
      exact hE.plain
    by_cases hc : c = 0
    · rw [if_pos hc]
      subst hc
      have hf : fullOf ⟨q.by', q.keys, q.funcs, some (a, 0)⟩ = false := rfl
      have hsplit : u.plain = plainOf [] (kQuery ⟨q.by', q.keys, q.funcs, some (a, 0)⟩ false) ++ [32, 102, 114, 111, 109, 32, 48] := by
        rw [hplain, hk true, hk false]
        have e2 : (kQuery q true ++ (.w Pq.wTop :: .n a true :: (if true = true then [.w Pq.wFrom, .n 0 true] else []))) = (kQuery q true ++ (.w Pq.wTop :: .n a true :: (if false = true then [.w Pq.wFrom, .n 0 true] else []))) ++ [.w Pq.wFrom, .n 0 true] := by simp
        rw [e2, plainOf_app, plainOf_w, plainOf_n, plainOf_nil]
        · simp [Pq.wFrom, Pq.numTxt]
        · rw [plainOf_app, plainOf]
          refine pl_ne ?_ _
          simp [Kd.ptext, Pq.wTop]
      have hp : ({ u with plain := u.plain.take (u.plain.length - 7) } : TS).plain = plainOf [] (kQuery ⟨q.by', q.keys, q.funcs, some (a, 0)⟩ (fullOf ⟨q.by', q.keys, q.funcs, some (a, 0)⟩)) := by
        rw [hf]
        show u.plain.take (u.plain.length - 7) = _
        rw [hsplit]
        simp
      have hl : Ln 300 { u with plain := u.plain.take (u.plain.length - 7) } := ⟨Nat.le_trans L2.1 (by omega), by
        show (u.plain.take (u.plain.length - 7)).length ≤ 300
        have := L2.2
        simp; omega⟩
      exact ⟨_, ast_both hq' (x := { u with plain := u.plain.take (u.plain.length - 7) }) hW rfl hp hl, hp, hb0, (fun e => by cases e), (fun _ => ⟨_, _, rfl⟩), ⟨L2.1, by show (u.plain.take (u.plain.length - 7)).length ≤ 280; have := L2.2; simp; omega⟩, fun e => by cases e⟩
    · rw [if_neg hc]
      have hf : fullOf ⟨q.by', q.keys, q.funcs, some (a, c)⟩ = true := by simp [fullOf, hc]
      exact ⟨_, ast_both hq' hW rfl (by rw [hf]; exact hplain) (L2.mono (by omega)), (by rw [hf]; exact hplain), hb0, (fun e => by cases e), (fun _ => ⟨_, _, rfl⟩), L2, fun e => by cases e⟩
theorem reads_math (l : Bytes) (b t : Bool) : ∃ q, Reads (queryS l b t) q := by
  obtain ⟨q, h, _⟩ := reads_full l b t
  exact ⟨q, h⟩
end Pk
end Go.Proofs.YtcoofnhdbejnpabGreatDoor

/- Plain functions: batches that are refused, and why; batches that take themselves back. -/
namespace Go.Proofs.YtcoofnhdbejnpabGreatDoor
namespace Pk
open Pv (R3 Chg)
abbrev gd : Chg := ((900, 0, 0), 1)
def badRows : List Chg := [((1001, 0, 0), 1), ((0, -1001, 0), 1), ((0, 0, 1001), 1), ((-9223372036854775808, 0, 0), 1), ((0, 9223372036854775807, 0), 0)]
def badCnt : List Int := [0, 41, -41, 9223372036854775807, -9223372036854775808]
theorem ref_scan {t l : List Chg} {x : Int × Nat} (hl : l.length ≤ 50) (h : Pv.scanF 0 l = some x) : Pv.refusedF t l = x := by
  unfold Pv.refusedF
  rw [if_neg (by omega), h]
theorem bad_row (t : List Chg) {j : Nat} (h : j < badRows.length) : Pv.refusedF t [gd, badRows[j]] = (7, 1) := by
  refine ref_scan (by simp) ?_
  have hall : badRows.all (fun b => decide (Pv.scanF 0 [gd, b] = some (7, 1))) = true := by decide
  have := List.all_eq_true.1 hall badRows[j] (List.getElem_mem h)
  simpa using this
theorem bad_cnt (t : List Chg) {j : Nat} (h : j < badCnt.length) : Pv.refusedF t [gd, gd, ((1, 1, 1), badCnt[j]), ((1001, 0, 0), 1)] = (8, 2) := by
  refine ref_scan (by simp) ?_
  have hall : badCnt.all (fun c => decide (Pv.scanF 0 [gd, gd, ((1, 1, 1), c), ((1001, 0, 0), 1)] = some (8, 2))) = true := by decide
  have := List.all_eq_true.1 hall badCnt[j] (List.getElem_mem h)
  simpa using this
theorem bad_long (t : List Chg) {l : List Chg} (h : 50 < l.length) : Pv.refusedF t l = (1, 0) := by
  unfold Pv.refusedF
  rw [if_pos h]
/-- no row of the table has the P 900 -/
def NoP (t : List Chg) : Prop := ∀ x : R3, x.1 = 900 → Pv.sumOf t x = 0
theorem firm_less1 {t : List Chg} (hn : NoP t) : Pv.refusedF t [((900, 1, 1), 3), ((900, 0, 0), 2), ((900, 0, 0), -3), ((900, 1, 1), -1)] = (9, 1) := by
  have h0 : Pv.scanF 0 [((900, 1, 1), 3), ((900, 0, 0), 2), ((900, 0, 0), -3), ((900, 1, 1), -1)] = none := by decide
  have h1 : Pv.lessF (Pv.tableF t [((900, 1, 1), 3), ((900, 0, 0), 2), ((900, 0, 0), -3), ((900, 1, 1), -1)]) 0 [((900, 1, 1), 3), ((900, 0, 0), 2), ((900, 0, 0), -3), ((900, 1, 1), -1)] = some 1 := by
    rw [Pv.lessF, Pv.less_any, hn _ rfl, if_neg (by decide), Pv.lessF, Pv.less_any, hn _ rfl, if_pos (by decide)]
  unfold Pv.refusedF
  rw [if_neg (by decide), h0]
  simp only [h1]
theorem firm_less2 {t : List Chg} (hn : NoP t) : Pv.refusedF t [((900, 1, 1), 40), ((900, 0, 0), 40), ((900, 2, 2), -1)] = (9, 2) := by
  have h0 : Pv.scanF 0 [((900, 1, 1), 40), ((900, 0, 0), 40), ((900, 2, 2), -1)] = none := by decide
  have h1 : Pv.lessF (Pv.tableF t [((900, 1, 1), 40), ((900, 0, 0), 40), ((900, 2, 2), -1)]) 0 [((900, 1, 1), 40), ((900, 0, 0), 40), ((900, 2, 2), -1)] = some 2 := by
    rw [Pv.lessF, Pv.less_any, hn _ rfl, if_neg (by decide), Pv.lessF, Pv.less_any, hn _ rfl, if_neg (by decide), Pv.lessF, Pv.less_any, hn _ rfl, if_pos (by decide)]
  unfold Pv.refusedF
  rw [if_neg (by decide), h0]
  simp only [h1]
theorem tab_total (t l : List Chg) : Pv.totalF (Pv.tableF t l) = Pv.totalF t + Pv.totalF l := by
  rw [total_eq (a := Pv.tableF t l) (b := t ++ l) (fun r => by rw [Pv.tableF_sum, Pv.sumOf_app])]
  simp [Pv.totalF]
theorem firm_full {t : List Chg} {all : Int} (hn : NoP t) (ht : Pv.totalF t = all) (h1 : 0 ≤ all) (h2 : all < 40) : Pv.refusedF t [((900, 1, 1), 40 - all), gd] = (10, 0) := by
  have c1 : Pv.cntOk (40 - all) = true := (Pv.cnt_iff _).2 ⟨by omega, by omega, by omega⟩
  have h0 : Pv.scanF 0 [((900, 1, 1), 40 - all), gd] = none := scan_ok _ 0 (fun c hc => by
    simp only [List.mem_cons, List.not_mem_nil, or_false] at hc
    rcases hc with rfl | rfl
    · exact ⟨show Pv.rowOk (900, 1, 1) = true by decide, c1⟩
    · exact ⟨by decide, by decide⟩)
  have h3 : Pv.lessF (Pv.tableF t [((900, 1, 1), 40 - all), gd]) 0 [((900, 1, 1), 40 - all), gd] = none := less_ok _ _ 0 (fun c hc => by
    simp only [List.mem_cons, List.not_mem_nil, or_false] at hc
    rcases hc with rfl | rfl
    · rw [Pv.less_any, hn _ rfl]; simp [Pv.sumOf]; omega
    · rw [Pv.less_any, hn _ rfl]; simp [Pv.sumOf])
  have h4 : Pv.totalF (Pv.tableF t [((900, 1, 1), 40 - all), gd]) = 41 := by
    rw [tab_total, ht]
    simp [Pv.totalF]; omega
  rw [Pv.refused_end (by simp) h0 h3, h4]
  rfl
theorem firm_full2 {t : List Chg} (hn : NoP t) (ht : Pv.totalF t = 40) : Pv.refusedF t [gd] = (10, 0) := by
  have h0 : Pv.scanF 0 [gd] = none := by decide
  have h3 : Pv.lessF (Pv.tableF t [gd]) 0 [gd] = none := less_ok _ _ 0 (fun c hc => by
    rw [List.mem_singleton.1 hc, Pv.less_any, hn _ rfl]; simp [Pv.sumOf])
  have h4 : Pv.totalF (Pv.tableF t [gd]) = 41 := by
    rw [tab_total, ht]
    simp [Pv.totalF]
  rw [Pv.refused_end (by simp) h0 h3, h4]
  rfl
/-- a batch that changes nothing -/
theorem quiet_ok {t l : List Chg} (ht : Pv.TInv t) (hl : l.length ≤ 50) (hc : ∀ c ∈ l, Pv.rowOk c.1 = true ∧ Pv.cntOk c.2 = true) (h : ∀ r, Pv.sumOf l r = 0) : Pv.refusedF t l = (0, 0) ∧ Pv.tableF t l = t ∧ ∀ q, Pv.appliedF q t l = [] := by
  have h1 := not_refused (t := t) (cs' := t) hl hc (fun r => by rw [h r]; omega) (fun c hc => by have := ht.pos c hc; omega) ht.tot
  have h2 : Pv.tableF t l = t := Pv.IsTable.ext (Pv.tableF_is _ _) ht.tab (fun r => by rw [h1.2 r])
  refine ⟨h1.1, h2, fun q => ?_⟩
  have a1 := applied_spec (q := q) ht (b := l) (by rw [h1.1])
  rw [h2] at a1
  exact Pv.outs_eq a1.1 List.Pairwise.nil (fun x hx => (a1.2.1 x hx).1) (fun x hx => by simp at hx) (fun k => by rw [a1.2.2]; simp [Pv.sumO])
theorem firm_back {t : List Chg} (ht : Pv.TInv t) : Pv.refusedF t [((900, 1, 1), 2), ((900, 0, 1), -1), ((900, 1, 1), -2), ((900, 0, 1), 1)] = (0, 0) ∧ Pv.tableF t [((900, 1, 1), 2), ((900, 0, 1), -1), ((900, 1, 1), -2), ((900, 0, 1), 1)] = t ∧ ∀ q, Pv.appliedF q t [((900, 1, 1), 2), ((900, 0, 1), -1), ((900, 1, 1), -2), ((900, 0, 1), 1)] = [] := by
  refine quiet_ok ht (by simp) (fun c hc => ?_) (fun r => ?_)
  · have hall : ([((900, 1, 1), 2), ((900, 0, 1), -1), ((900, 1, 1), -2), ((900, 0, 1), 1)] : List Chg).all (fun c => Pv.rowOk c.1 && Pv.cntOk c.2) = true := by decide
    have := List.all_eq_true.1 hall c hc
    simpa using this
  · simp only [Pv.sumOf]
    split <;> split <;> omega
theorem firm_nil {t : List Chg} (ht : Pv.TInv t) : Pv.refusedF t [] = (0, 0) ∧ Pv.tableF t [] = t ∧ ∀ q, Pv.appliedF q t [] = [] := quiet_ok ht (by simp) (fun c hc => by simp at hc) (fun r => rfl)
/-- the counts' rows have no P 900 -/
theorem nop_of {t cs : List Chg} {all : Int} (h : CInv cs all) (hs : Same t cs) : NoP t := fun x hx => by
  rw [hs x]
  refine Pv.sumOf_none (fun c hc e => ?_)
  have h2 := h.fin c hc
  unfold allRows at h2
  obtain ⟨p, hp, hr⟩ := List.mem_flatMap.1 h2
  obtain ⟨k, hk, hr⟩ := List.mem_flatMap.1 hr
  obtain ⟨v, hv, hr⟩ := List.mem_map.1 hr
  have := List.mem_range.1 hp
  rw [← e, ← hr] at hx
  simp only [] at hx
  omega
end Pk
end Go.Proofs.YtcoofnhdbejnpabGreatDoor

