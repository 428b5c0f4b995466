/- Plain mathematics: a query of the maker's, with top or without. -/
import Derived.Test.YtcoofnhdbejnpaaGreatDoorG43
import Derived.Test.YtcoofnhdbejnpaaGreatDoorG40
namespace Go.Proofs.YtcoofnhdbejnpaaGreatDoor
namespace Pk
open Pq (Bytes Tok PS)
theorem plan_both {q : Ast} (hq : GoodAst q) {x y : TS} (h : Wr (kQuery q true) ⟨0, [], []⟩ y) (hr : x.raw = y.raw) (hp : x.plain = plainOf [] (kQuery q (fullOf q))) (hl : Ln 300 x) :
    (Pq.readE x.raw = 0 ∧ Pq.plainTxt (Pq.endPS x.raw) = x.plain) ∧ (Pq.readE x.plain = 0 ∧ Pq.plainTxt (Pq.endPS x.plain) = x.plain) := by
  have h1 := plan_of hq (.inl rfl) h (by rw [← hr]; exact hl.1)
  have h2 := plan_of hq (full := fullOf q) (.inr rfl) (canon_wr (kQuery q (fullOf q)) []) (by rw [← hp]; exact hl.2)
  rw [hr]
  simp only [← hp] at h1 h2
  exact ⟨h1, h2⟩
theorem plain_math (l : Bytes) (b t : Bool) : (Pq.readE (queryS l b t).raw = 0 ∧ Pq.plainTxt (Pq.endPS (queryS l b t).raw) = (queryS l b t).plain) ∧ (Pq.readE (queryS l b t).plain = 0 ∧ Pq.plainTxt (Pq.endPS (queryS l b t).plain) = (queryS l b t).plain) ∧ Ln 300 (queryS l b t) := by
  obtain ⟨q, hq, hnone, hw, hL⟩ := main_wr l b
  cases t with
  | false =>
    have e : queryS l b false = mainS l b ⟨0, [], []⟩ := rfl
    rw [e]
    have hf : fullOf q = true := by unfold fullOf; rw [hnone]
    have hp : (mainS l b ⟨0, [], []⟩).plain = plainOf [] (kQuery q (fullOf q)) := by
      obtain ⟨I, hE⟩ := hw
      rw [hE.plain, hf]
    have := plan_both hq hw rfl hp (hL.mono (by omega))
    exact ⟨this.1, this.2, hL.mono (by omega)⟩
  | true =>
    have e : queryS l b true = topS l (mainS l b ⟨0, [], []⟩) := rfl
    rw [e]
    generalize mainS l b ⟨0, [], []⟩ = m at *
    have hT : topS l m = top4 l (numberS l (nxt l (wordS l [116, 111, 112] m).a 6) true ((wordS l [116, 111, 112] m).eat l)) := rfl
    have ha := nxt_lt l (wordS l [116, 111, 112] m).a 6 (by omega)
    have w1 := (Wr.word l [116, 111, 112] m).one ((Wr.eat _ l).app (Wr.number l (nxt l (wordS l [116, 111, 112] m).a 6) true ((wordS l [116, 111, 112] m).eat l)))
    have L1 := ((hL.word l [116, 111, 112] (k := 3) (by simp)).eat l).number l (nxt l (wordS l [116, 111, 112] m).a 6) true
    rw [hT]
    generalize nxt l (wordS l [116, 111, 112] m).a 6 = a at *
    generalize numberS l a true ((wordS l [116, 111, 112] m).eat l) = z at *
    have hb := nxt_lt l z.a 3 (by omega)
    have w2 : Wr [.w Pq.wFrom, .n (nxt l z.a 3) true] z (top5 l z) := (Wr.eat z l).app ((Wr.word l [102, 114, 111, 109] _).one (Wr.number l (nxt l z.a 3) true _))
    have L2 : Ln 280 (top5 l z) := (((L1.eat l).word l [102, 114, 111, 109] (k := 4) (by simp)).number l (nxt l z.a 3) true).mono (by omega)
    have hT4 : top4 l z = if nxt l z.a 3 = 0 then { top5 l z with plain := (top5 l z).plain.take ((top5 l z).plain.length - 7) } else top5 l z := rfl
    rw [hT4]
    generalize nxt l z.a 3 = c at *
    generalize top5 l z = u at *
    have hq' : GoodAst ⟨q.by', q.keys, q.funcs, some (a, c)⟩ := ⟨hq.byN, hq.byL, hq.keys, hq.fne, hq.fl, hq.fg, fun x y e => by simp at e; omega⟩
    have hk : ∀ full, kQuery ⟨q.by', q.keys, q.funcs, some (a, c)⟩ full = kQuery q true ++ (.w Pq.wTop :: .n a true :: (if full then [.w Pq.wFrom, .n c true] else [])) := by
      intro full
      unfold kQuery
      rw [hnone]
      simp [kTop]
    have hW : Wr (kQuery ⟨q.by', q.keys, q.funcs, some (a, c)⟩ true) ⟨0, [], []⟩ u := by
      rw [hk true]
      have := (hw.app w1).app w2
      simpa [Pq.wTop] using this
    have hplain : u.plain = plainOf [] (kQuery ⟨q.by', q.keys, q.funcs, some (a, c)⟩ true) := by
      obtain ⟨I, hE⟩ := hW
      exact hE.plain
    by_cases hc : c = 0
    · rw [if_pos hc]
      subst hc
      have hf : fullOf ⟨q.by', q.keys, q.funcs, some (a, 0)⟩ = false := rfl
      have hsplit : u.plain = plainOf [] (kQuery ⟨q.by', q.keys, q.funcs, some (a, 0)⟩ false) ++ [32, 102, 114, 111, 109, 32, 48] := by
        rw [hplain, hk true, hk false]
        have e2 : (kQuery q true ++ (.w Pq.wTop :: .n a true :: (if true = true then [.w Pq.wFrom, .n 0 true] else []))) = (kQuery q true ++ (.w Pq.wTop :: .n a true :: (if false = true then [.w Pq.wFrom, .n 0 true] else []))) ++ [.w Pq.wFrom, .n 0 true] := by simp
        rw [e2, plainOf_app, plainOf_w, plainOf_n, plainOf_nil]
        · simp [Pq.wFrom, Pq.numTxt]
        · rw [plainOf_app, plainOf]
          refine pl_ne ?_ _
          simp [Kd.ptext, Pq.wTop]
      have hp : ({ u with plain := u.plain.take (u.plain.length - 7) } : TS).plain = plainOf [] (kQuery ⟨q.by', q.keys, q.funcs, some (a, 0)⟩ (fullOf ⟨q.by', q.keys, q.funcs, some (a, 0)⟩)) := by
        rw [hf]
        show u.plain.take (u.plain.length - 7) = _
        rw [hsplit]
        simp
      have hl : Ln 300 { u with plain := u.plain.take (u.plain.length - 7) } := ⟨Nat.le_trans L2.1 (by omega), by
        show (u.plain.take (u.plain.length - 7)).length ≤ 300
        have := L2.2
        simp; omega⟩
      have := plan_both hq' (x := { u with plain := u.plain.take (u.plain.length - 7) }) hW rfl hp hl
      exact ⟨this.1, this.2, hl⟩
    · rw [if_neg hc]
      have hf : fullOf ⟨q.by', q.keys, q.funcs, some (a, c)⟩ = true := by simp [fullOf, hc]
      have := plan_both hq' hW rfl (by rw [hf]; exact hplain) (L2.mono (by omega))
      exact ⟨this.1, this.2, L2.mono (by omega)⟩
end Pk
end Go.Proofs.YtcoofnhdbejnpaaGreatDoor

/- Plain mathematics: what a query of the maker's is read as; a view of it. -/
namespace Go.Proofs.YtcoofnhdbejnpaaGreatDoor
open Go.RowKit
namespace Pk
open Pq (Bytes Tok PS)
theorem raw_of {q : Ast} (hq : GoodAst q) {y : TS} (h : Wr (kQuery q true) ⟨0, [], []⟩ y) (hl : y.raw.length ≤ 300) : Pq.readE y.raw = 0 ∧ ∃ n, Pq.endPS y.raw = astPS q n true := by
  obtain ⟨h1, h2⟩ := read_toks h (adj_query hq true)
  have h3 := query_ok y.raw.length hq h2
  have he : Pq.endPS y.raw = astPS q (Pq.toksOf y.raw).length true := h3
  refine ⟨?_, _, he⟩
  rw [(Pq.readE_ok (by omega) h1).1, he]
  simp [Pq.faultE, astPS]
/-- the same query, without top and with it -/
theorem raw_both (l : Bytes) (b : Bool) : ∃ q : Ast, GoodAst q ∧ q.top = none ∧ (Pq.readE (queryS l b false).raw = 0 ∧ ∃ n, Pq.endPS (queryS l b false).raw = astPS q n true) ∧ ∃ a c : Nat, GoodAst ⟨q.by', q.keys, q.funcs, some (a, c)⟩ ∧ Pq.readE (queryS l b true).raw = 0 ∧ ∃ n, Pq.endPS (queryS l b true).raw = astPS ⟨q.by', q.keys, q.funcs, some (a, c)⟩ n true := by
  obtain ⟨q, hq, hnone, hw, hL⟩ := main_wr l b
  refine ⟨q, hq, hnone, raw_of hq hw (Nat.le_trans hL.1 (by omega)), ?_⟩
  have e : queryS l b true = topS l (mainS l b ⟨0, [], []⟩) := rfl
  rw [e]
  generalize mainS l b ⟨0, [], []⟩ = m at *
  have hT : topS l m = top4 l (numberS l (nxt l (wordS l [116, 111, 112] m).a 6) true ((wordS l [116, 111, 112] m).eat l)) := rfl
  have ha := nxt_lt l (wordS l [116, 111, 112] m).a 6 (by omega)
  have w1 := (Wr.word l [116, 111, 112] m).one ((Wr.eat _ l).app (Wr.number l (nxt l (wordS l [116, 111, 112] m).a 6) true ((wordS l [116, 111, 112] m).eat l)))
  have L1 := ((hL.word l [116, 111, 112] (k := 3) (by simp)).eat l).number l (nxt l (wordS l [116, 111, 112] m).a 6) true
  rw [hT]
  generalize nxt l (wordS l [116, 111, 112] m).a 6 = a at *
  generalize numberS l a true ((wordS l [116, 111, 112] m).eat l) = z at *
  have hb := nxt_lt l z.a 3 (by omega)
  have w2 : Wr [.w Pq.wFrom, .n (nxt l z.a 3) true] z (top5 l z) := (Wr.eat z l).app ((Wr.word l [102, 114, 111, 109] _).one (Wr.number l (nxt l z.a 3) true _))
  have L2 : Ln 280 (top5 l z) := (((L1.eat l).word l [102, 114, 111, 109] (k := 4) (by simp)).number l (nxt l z.a 3) true).mono (by omega)
  have hraw : (top4 l z).raw = (top5 l z).raw := by unfold top4; split <;> rfl
  rw [hraw]
  generalize nxt l z.a 3 = c at *
  generalize top5 l z = u at *
  have hq' : GoodAst ⟨q.by', q.keys, q.funcs, some (a, c)⟩ := ⟨hq.byN, hq.byL, hq.keys, hq.fne, hq.fl, hq.fg, fun x y e => by simp at e; omega⟩
  have hW : Wr (kQuery ⟨q.by', q.keys, q.funcs, some (a, c)⟩ true) ⟨0, [], []⟩ u := by
    have hk : kQuery ⟨q.by', q.keys, q.funcs, some (a, c)⟩ true = kQuery q true ++ (.w Pq.wTop :: .n a true :: [.w Pq.wFrom, .n c true]) := by
      unfold kQuery
      rw [hnone]
      simp [kTop]
    rw [hk]
    have := (hw.app w1).app w2
    simpa [Pq.wTop] using this
  exact ⟨a, c, hq', raw_of hq' hW (Nat.le_trans L2.1 (by omega))⟩
theorem raw_ast (l : Bytes) (b t : Bool) : ∃ q : Ast, GoodAst q ∧ Pq.readE (queryS l b t).raw = 0 ∧ ∃ n, Pq.endPS (queryS l b t).raw = astPS q n true := by
  obtain ⟨q, hq, _, h1, a, c, hq2, h2⟩ := raw_both l b
  cases t
  · exact ⟨q, hq, h1⟩
  · exact ⟨_, hq2, h2⟩
/-- the query that is shown -/
def qryOf (q : Ast) : Pv.Qry := ⟨q.by', q.keys, q.funcs, (match q.top with | some (a, _) => (a : Int) | none => -1), (match q.top with | some (_, b) => (b : Int) | none => 0)⟩
theorem edgeOk_of (e : Pq.Edge) (h : GoodEdge e) : EdgeOk e := ⟨h.kind, h.num.1, by have := h.num.2; omega⟩
theorem frameOk_of (f : Pq.Frame) (h : GoodFrame f) : FrameOk f := by
  have z : EdgeOk e0 := ⟨by decide, by decide, by decide⟩
  induction f, h using GoodFrame_ind with
  | all => exact ⟨by decide, by decide, by decide, z, z⟩
  | peers => exact ⟨by decide, by decide, by decide, z, z⟩
  | near n h => exact ⟨by simp only []; omega, by simp only []; omega, by simp only []; omega, z, z⟩
  | between a b ha hb => exact ⟨by simp only []; omega, by simp only []; omega, by simp only []; omega, edgeOk_of a ha, edgeOk_of b hb⟩
theorem fnOk_of (f : Pq.Fn) (h : GoodFn f) : FnOk f := by
  have z : EdgeOk e0 := ⟨by decide, by decide, by decide⟩
  have zf : FrameOk Pq.fr0 := ⟨by decide, by decide, by decide, ⟨by decide, by decide, by decide⟩, ⟨by decide, by decide, by decide⟩⟩
  induction f, h using GoodFn_ind with
  | plain k h => exact ⟨by simp only []; omega, by simp only []; omega, by simp only []; omega, by simp only []; omega, by simp only []; omega, zf⟩
  | tile n h h0 => exact ⟨by simp only []; omega, by simp only []; omega, by simp only []; omega, by simp only []; omega, by simp only []; omega, zf⟩
  | lag k c n hk hc h => exact ⟨by simp only []; omega, hc, by simp only []; omega, by simp only []; omega, by simp only []; omega, zf⟩
  | over k c f h6 hk hc hf => exact ⟨hk, hc, by simp only []; omega, by simp only []; omega, by simp only []; omega, frameOk_of f hf⟩
end Pk
theorem QX.of {w : World} {B : Nat} {vb vk vf : Value} {q : Pk.Ast} (hq : Pk.GoodAst q) {n : Nat} {s : Pq.PS} (hs : s = Pk.astPS q n true) (o1 : w.ownsRow B 215 1 vb s.by'.length (colCells s.by')) (o2 : w.ownsRow B 253 2 vk s.keys.length (keyCells s.keys)) (o3 : w.ownsRow B 223 9 vf s.funcs.length (fnCells s.funcs)) (l1 : s.by'.length ≤ 301) (l2 : s.keys.length ≤ 301) : QX w vb vk vf s.hasTop s.top s.frm (Pk.qryOf q) := by
  subst hs
  have hfl := hq.fl
  refine ⟨RdG.ofOwn o1, RdG.ofOwn o2, RdG.ofOwn o3, Nat.le_trans l1 (by omega), hq.byL, Nat.le_trans l2 (by omega), fun k hk => hq.keys.lt k hk, hq.keys.ne, Nat.le_trans hfl (by omega), fun f hf => Pk.fnOk_of f (hq.fg f hf), ?_, ?_, ?_, ?_, ?_, ?_, ?_⟩
  all_goals
    have ht := hq.top
    unfold Pk.astPS
    try unfold Pk.qryOf
    cases hc : q.top with
    | none => simp
    | some x =>
      obtain ⟨a, b⟩ := x
      have := ht a b hc
      simp <;> omega
/-- a view just begun -/
def BegPost (w : World) (q : Pk.Ast) (e : Ending) (w' : World) : Prop :=
  Below w.heap.size w w' ∧ ∃ g vb vk vf has tp fr, e = .returned (.tuple #[.pointer (some ⟨g, 0, none⟩), .bool true]) ∧ w.heap.size ≤ g ∧ XV w' g vb vk vf has tp fr (.slice none 0 0) (Pk.qryOf q) []
set_option maxHeartbeats 1000000 in
theorem begin_any {s : ByteArray} {q : Pk.Ast} {n : Nat} (hs : s.size ≤ maxLen) (hq : Pk.GoodAst q) (hr : Pq.readE s.data.toList = 0) (he : Pq.endPS s.data.toList = Pk.astPS q n true) (w : World) :
    Calls Tryz.prog 16 #[.string s] w fun e w' => BegPost w q e w' := by
  have HQ := hide hq
  have HR := hide hr
  have HE := hide he
  clear hq hr he
  go_enter Tryz.func16, Tryz.ntmps16
  go_wp2_with fail
  refine (new_any s w hs).mono ?_
  rintro e w1 ⟨b1, ⟨hne, _⟩ | ⟨_, g, vb, vk, vf, hg, hg2, rfl, hblk, o1, o2, o3, l1, l2, l3⟩⟩
  · exact absurd HR.out hne
  · have XX : Hid (XV w1 g vb vk vf (Pq.endPS s.data.toList).hasTop (Pq.endPS s.data.toList).top (Pq.endPS s.data.toList).frm (.slice none 0 0) (Pk.qryOf q) []) := ⟨hblk, QX.of HQ.out HE.out o1 o2 o3 l1 l2, RdC.ofOwn (B := 0) (n := 0) (World.ownsRow_nil _ _ _ _), Pv.TInv.nil⟩
    have B1 := hide b1
    clear hblk o1 o2 o3 l1 l2 l3 b1
    go_wp2
    go_ret2
    exact ⟨B1.out, g, _, _, _, _, _, _, rfl, hg, XX.out⟩
end Go.Proofs.YtcoofnhdbejnpaaGreatDoor

/- A view and the counts beside each other: a batch made, a batch applied. -/
namespace Go.Proofs.YtcoofnhdbejnpaaGreatDoor
open Go.RowKit
/-- the blocks that turn are of none of these types -/
def Off (S : Nat → Prop) (w : World) (p : Nat → Prop) : Prop := ∀ k, S k → k < w.heap.size → ∃ cur T fz, w.heap[k]? = some (.cells cur T fz) ∧ ¬ p T
theorem Off.ne {S : Nat → Prop} {w : World} {p : Nat → Prop} (h : Off S w p) {k T : Nat} {cur : Array Value} {fz : Nat × Nat} (hk : w.heap[k]? = some (.cells cur T fz)) (hT : p T) : ¬ S k := fun hs => by
  obtain ⟨c, T', f, e, hn⟩ := h k hs (Array.getElem?_eq_some_iff.1 hk).1
  rw [hk] at e
  cases e
  exact hn hT
theorem RdG.but {T sz : Nat} {w w' : World} {v : Value} {n : Nat} {cs : List Value} (h : RdG T sz w v n cs) {S : Nat → Prop} {p : Nat → Prop} (hb : But S w w') (ho : Off S w p) (hT : p T) : RdG T sz w' v n cs := by
  refine ⟨h.1, ?_⟩
  rcases h.2 with h | ⟨g, off, cap, cur, fz, h1, h2, h3, h4⟩
  · exact .inl h
  · exact .inr ⟨g, off, cap, cur, fz, h1, h2, (hb.block g (Array.getElem?_eq_some_iff.1 h3).1 (ho.ne h3 hT)).trans h3, h4⟩
theorem RdC.but {w w' : World} {v : Value} {l : List Pv.Chg} (h : RdC w v l) {S : Nat → Prop} {p : Nat → Prop} (hb : But S w w') (ho : Off S w p) (hT : p 50) : RdC w' v l := by
  rcases h with h | ⟨g, off, cap, cur, fz, h1, h2, h3, h4⟩
  · exact .inl h
  · exact .inr ⟨g, off, cap, cur, fz, h1, h2, (hb.block g (Array.getElem?_eq_some_iff.1 h3).1 (ho.ne h3 hT)).trans h3, h4⟩
theorem RdO.but {w w' : World} {v : Value} {l : List Pv.Out} (h : RdO w v l) {S : Nat → Prop} {p : Nat → Prop} (hb : But S w w') (ho : Off S w p) (h1 : p 52) (h2 : p 55) : RdO w' v l := by
  obtain ⟨vs, hv, hr⟩ := h
  refine ⟨vs, ⟨hv.1, fun j hj hj2 => ?_⟩, RdG.but hr hb ho h2⟩
  exact RdG.but (hv.2 j hj hj2) hb ho h1
theorem QX.but {w w' : World} {vb vk vf : Value} {has : Bool} {tp fr : Int} {Q : Pv.Qry} (h : QX w vb vk vf has tp fr Q) {S : Nat → Prop} {p : Nat → Prop} (hb : But S w w') (ho : Off S w p) (h1 : p 215) (h2 : p 253) (h3 : p 223) : QX w' vb vk vf has tp fr Q :=
  ⟨RdG.but h.rb hb ho h1, RdG.but h.rk hb ho h2, RdG.but h.rf hb ho h3, h.bl, h.bc, h.kl, h.kc, h.k0, h.fl, h.fo, h.t0, h.t1, h.f0, h.f1, h.fr', h.tt, h.tf⟩
/-- lists that were handed out are as they were -/
structure Kp (w w' : World) : Prop where
  o : ∀ v l, RdO w v l → RdO w' v l
  c : ∀ v l, RdC w v l → RdC w' v l
theorem Kp.below {w w1 : World} (hb : Below w.heap.size w w1) : Kp w w1 := ⟨fun _ _ q => q.below hb, fun _ _ q => q.below hb⟩
theorem Kp.but {w w1 : World} {S : Nat → Prop} {p : Nat → Prop} (hb : But S w w1) (ho : Off S w p) (h1 : p 52) (h2 : p 55) (h3 : p 50) : Kp w w1 := ⟨fun _ _ q => q.but hb ho h1 h2, fun _ _ q => q.but hb ho h3⟩
/-- the types of the counts' blocks -/
def pC (T : Nat) : Prop := T ≠ 66 ∧ T ≠ 48 ∧ T ≠ 3
theorem CM.off {w : World} {bc B : Nat} {vr vn : Value} {cs : List Pv.Chg} {all : Int} (h : CM w bc B vr vn cs all) : Off (CS bc vr vn) w pC := fun k hk _ => by
  obtain ⟨_, cur, T, fz, e, ht⟩ := h.kind k hk
  refine ⟨cur, T, fz, e, fun hp => ?_⟩
  rcases ht with q | q | q
  · exact hp.1 q
  · exact hp.2.1 q
  · exact hp.2.2 q
theorem XV.butC {w w' : World} {bc B gx : Nat} {vr vn vb vk vf vt : Value} {cs : List Pv.Chg} {all : Int} {has : Bool} {tp fr : Int} {Q : Pv.Qry} {t : List Pv.Chg} (h : XV w gx vb vk vf has tp fr vt Q t) (hc : CM w bc B vr vn cs all) (hb : But (CS bc vr vn) w w') : XV w' gx vb vk vf has tp fr vt Q t :=
  ⟨(hb.block gx (Array.getElem?_eq_some_iff.1 h.blk).1 (hc.off.ne h.blk (by unfold pC; decide))).trans h.blk, h.q.but hb hc.off (by unfold pC; decide) (by unfold pC; decide) (by unfold pC; decide), h.rt.but hb hc.off (by unfold pC; decide), h.inv⟩
theorem XV.offX {w : World} {gx : Nat} {vb vk vf vt : Value} {has : Bool} {tp fr : Int} {Q : Pv.Qry} {t : List Pv.Chg} (h : XV w gx vb vk vf has tp fr vt Q t) : Off (fun k => k = gx) w (fun T => T ≠ 114) := fun k hk _ => by
  subst hk
  exact ⟨_, _, _, h.blk, fun hn => hn rfl⟩
/-- a view with the table t, and the counts that say the same -/
def UM (N : Nat) (w wr : World) (bc gx : Nat) (Q : Pv.Qry) (cs : List Pv.Chg) (all : Int) (t : List Pv.Chg) : Prop :=
  Below N w wr ∧ N ≤ bc ∧ N ≤ gx ∧ N ≤ w.heap.size ∧ Pk.CInv cs all ∧ Pk.Same t cs ∧ ∃ vr vn vb vk vf has tp fr vt, CM wr bc N vr vn cs all ∧ XV wr gx vb vk vf has tp fr vt Q t
/-- behind a batch: the counts are ahead -/
def UB (N : Nat) (w wr : World) (bc gx : Nat) (Q : Pv.Qry) (cs : List Pv.Chg) (all : Int) (t : List Pv.Chg) (l : Pq.Bytes) : Prop :=
  Below N w wr ∧ N ≤ bc ∧ N ≤ gx ∧ N ≤ w.heap.size ∧ Pk.CInv cs all ∧ Pk.Same t cs ∧ ∃ vr vn vb vk vf has tp fr vt, CM wr bc N vr vn (Pk.batchF l cs all).cs (Pk.batchF l cs all).all ∧ XV wr gx vb vk vf has tp fr vt Q t
theorem CM.ge {w : World} {bc N : Nat} {vr vn : Value} {cs : List Pv.Chg} {all : Int} (h : CM w bc N vr vn cs all) (hN : N ≤ bc) : ∀ k, k < N → ¬ CS bc vr vn k := fun k hk hc => by
  rcases hc with q | q | q
  · omega
  · have := (own_at h.rr q).1; omega
  · have := (own_at h.rn q).1; omega
theorem But.near {S : Nat → Prop} {N : Nat} {w w1 w2 : World} (h : Below N w w1) (hN : N ≤ w.heap.size) (hb : But S w1 w2) (hS : ∀ k, k < N → ¬ S k) : Below N w w2 := h.trans (hb.below hS (Nat.le_trans hN h.size))
def UBPost (N : Nat) (w wr : World) (bc gx : Nat) (Q : Pv.Qry) (cs : List Pv.Chg) (all : Int) (t : List Pv.Chg) (l : Pq.Bytes) (e : Ending) (w' : World) : Prop :=
  ∃ x n c, e = .returned (.slice x n c) ∧ UB N w w' bc gx Q cs all t l ∧ RdC w' (.slice x n c) (Pk.batchF l cs all).l ∧ Kp wr w'
theorem UM.batch {N : Nat} {w wr : World} {bc gx : Nat} {Q : Pv.Qry} {cs : List Pv.Chg} {all : Int} {t : List Pv.Chg} (h : UM N w wr bc gx Q cs all t) {s : ByteArray} (hs : s.size ≤ maxLen) :
    Calls Tryz.prog 24 #[.pointer (some ⟨bc, 0, none⟩), .string s] wr fun e w' => UBPost N w wr bc gx Q cs all t s.data.toList e w' := by
  obtain ⟨hb, hN1, hN2, hN3, hI, hS, vr, vn, vb, vk, vf, has, tp, fr, vt, hc, hx⟩ := h
  refine (batch_any hc hI (Nat.le_trans hN3 hb.size) hs).mono ?_
  rintro e w' ⟨bu, x, n, c, vr', vn', rfl, own, cm, o1, o2⟩
  exact ⟨x, n, c, rfl, ⟨But.near hb hN3 bu (hc.ge hN1), hN1, hN2, hN3, hI, hS, vr', vn', vb, vk, vf, has, tp, fr, vt, cm, hx.butC hc bu⟩, RdC.ofOwn own, Kp.but bu hc.off (by unfold pC; decide) (by unfold pC; decide) (by unfold pC; decide)⟩
def UAPost (N : Nat) (w wr : World) (bc gx : Nat) (Q : Pv.Qry) (cs : List Pv.Chg) (all : Int) (t bt : List Pv.Chg) (e : Ending) (w' : World) : Prop :=
  ∃ x n c, e = .returned (.tuple #[.slice x n c, .int .i64 0, .int .i64 0]) ∧ UM N w w' bc gx Q cs all (Pv.tableF t bt) ∧ RdO w' (.slice x n c) (Pv.appliedF Q t bt) ∧ Kp wr w'
/-- a batch that is not refused, with counts that say what comes of it -/
theorem xapply_ok {N : Nat} {w wr : World} {bc gx : Nat} {Q : Pv.Qry} {cs : List Pv.Chg} {all : Int} {t bt : List Pv.Chg} {vbt vr vn vb vk vf vt : Value} {has : Bool} {tp fr : Int} (hb : Below N w wr) (hN1 : N ≤ bc) (hN2 : N ≤ gx) (hN3 : N ≤ w.heap.size) (hI : Pk.CInv cs all) (h0 : Pv.refusedF t bt = (0, 0)) (hS : Pk.Same (Pv.tableF t bt) cs) (hl : bt.length ≤ 50) (hc : CM wr bc N vr vn cs all) (hx : XV wr gx vb vk vf has tp fr vt Q t) (hbt : RdC wr vbt bt) :
    Calls Tryz.prog 18 #[.pointer (some ⟨gx, 0, none⟩), vbt] wr fun e w' => UAPost N w wr bc gx Q cs all t bt e w' := by
  have h1 : (Pv.refusedF t bt).1 = 0 := by rw [h0]
  refine (xapply_any hx hbt (by omega)).mono ?_
  rintro e w' ⟨bu, x, n, c, x2, n2, c2, P, rfl, oq, hm, hblk, hor⟩
  have hne : ¬ CS bc vr vn gx := hc.off.ne hx.blk (by unfold pC; decide)
  rcases hor with ⟨hq, _⟩ | ⟨_, own⟩
  · exact absurd h1 hq
  · refine ⟨x, n, c, by rw [h0]; rfl, ⟨But.near hb hN3 bu (fun k hk e => by omega), hN1, hN2, hN3, hI, hS, vr, vn, vb, vk, vf, has, tp, fr, .slice x2 n2 c2, hc.but bu (fun k hk e => hne (e ▸ hk)), ⟨hblk, hx.q.but bu hx.offX (by decide) (by decide) (by decide), RdC.ofOwn own, (hx.inv.next h1).1⟩⟩, ?_, Kp.but bu hx.offX (by decide) (by decide) (by decide)⟩
    rw [← hm]
    exact oq.toP.toO.rd
theorem UB.apply {N : Nat} {w wr : World} {bc gx : Nat} {Q : Pv.Qry} {cs : List Pv.Chg} {all : Int} {t : List Pv.Chg} {l : Pq.Bytes} (h : UB N w wr bc gx Q cs all t l) {v : Value} (hv : RdC wr v (Pk.batchF l cs all).l) :
    Calls Tryz.prog 18 #[.pointer (some ⟨gx, 0, none⟩), v] wr fun e w' => UAPost N w wr bc gx Q (Pk.batchF l cs all).cs (Pk.batchF l cs all).all t (Pk.batchF l cs all).l e w' := by
  obtain ⟨hb, hN1, hN2, hN3, hI, hS, vr, vn, vb, vk, vf, has, tp, fr, vt, hc, hx⟩ := h
  obtain ⟨h0, hs2, hI2, hl⟩ := Pk.batch_ok l hI hS
  exact xapply_ok hb hN1 hN2 hN3 hI2 h0 hs2 (by omega) hc hx hv
theorem UM.below {N : Nat} {w wr w1 : World} {bc gx : Nat} {Q : Pv.Qry} {cs : List Pv.Chg} {all : Int} {t : List Pv.Chg} (h : UM N w wr bc gx Q cs all t) (hb1 : Below wr.heap.size wr w1) : UM N w w1 bc gx Q cs all t := by
  obtain ⟨hb, hN1, hN2, hN3, hI, hS, vr, vn, vb, vk, vf, has, tp, fr, vt, hc, hx⟩ := h
  exact ⟨hb.trans (hb1.mono (Nat.le_trans hN3 hb.size)), hN1, hN2, hN3, hI, hS, vr, vn, vb, vk, vf, has, tp, fr, vt, hc.below hb1, hx.below hb1⟩
/-- a batch that is not refused -/
def XAPost (N : Nat) (w wr : World) (gx : Nat) (vb vk vf : Value) (has : Bool) (tp fr : Int) (Q : Pv.Qry) (t bt : List Pv.Chg) (e : Ending) (w' : World) : Prop :=
  ∃ x n c vt', e = .returned (.tuple #[.slice x n c, .int .i64 0, .int .i64 0]) ∧ Below N w w' ∧ XV w' gx vb vk vf has tp fr vt' Q (Pv.tableF t bt) ∧ RdO w' (.slice x n c) (Pv.appliedF Q t bt) ∧ Kp wr w'
theorem xapply_plain {N : Nat} {w wr : World} {gx : Nat} {Q : Pv.Qry} {t bt : List Pv.Chg} {vbt vb vk vf vt : Value} {has : Bool} {tp fr : Int} (hb : Below N w wr) (hN2 : N ≤ gx) (hN3 : N ≤ w.heap.size) (h0 : Pv.refusedF t bt = (0, 0)) (hl : bt.length ≤ 50) (hx : XV wr gx vb vk vf has tp fr vt Q t) (hbt : RdC wr vbt bt) :
    Calls Tryz.prog 18 #[.pointer (some ⟨gx, 0, none⟩), vbt] wr fun e w' => XAPost N w wr gx vb vk vf has tp fr Q t bt e w' := by
  have h1 : (Pv.refusedF t bt).1 = 0 := by rw [h0]
  refine (xapply_any hx hbt (by omega)).mono ?_
  rintro e w' ⟨bu, x, n, c, x2, n2, c2, P, rfl, oq, hm, hblk, hor⟩
  rcases hor with ⟨hq, _⟩ | ⟨_, own⟩
  · exact absurd h1 hq
  · refine ⟨x, n, c, .slice x2 n2 c2, by rw [h0]; rfl, But.near hb hN3 bu (fun k hk e => by omega), ⟨hblk, hx.q.but bu hx.offX (by decide) (by decide) (by decide), RdC.ofOwn own, (hx.inv.next h1).1⟩, ?_, Kp.but bu hx.offX (by decide) (by decide) (by decide)⟩
    rw [← hm]
    exact oq.toP.toO.rd
theorem timesO_one (l : List Pv.Out) : timesO 1 l = l := by
  unfold timesO
  refine (List.map_congr_left (g := id) (fun o _ => ?_)).trans (List.map_id l)
  obtain ⟨a, b, c⟩ := o
  simp
theorem timesO_neg (l : List Pv.Out) : timesO (-1) l = Pk.turnO l := by
  unfold timesO Pk.turnO
  refine List.map_congr_left (fun o _ => ?_)
  obtain ⟨a, b, c⟩ := o
  simp
/-- Rows and Table, as lists that can be read -/
def RowsPost (w : World) (l : List Pv.Out) (e : Ending) (w' : World) : Prop := Below w.heap.size w w' ∧ ∃ x n c, e = .returned (.slice x n c) ∧ RdO w' (.slice x n c) l
theorem xrows_rd {w : World} {gx : Nat} {vb vk vf vt : Value} {has : Bool} {tp fr : Int} {Q : Pv.Qry} {t : List Pv.Chg} (h : XV w gx vb vk vf has tp fr vt Q t) :
    Calls Tryz.prog 19 #[.pointer (some ⟨gx, 0, none⟩)] w fun e w' => RowsPost w (Pv.rowsF Q t) e w' := by
  refine (xrows_any h).mono ?_
  rintro e w' ⟨hb, u, P, rfl, hq, hm⟩
  obtain ⟨x, n, c, rfl⟩ := own_sl hq.row
  refine ⟨hb, x, n, c, rfl, ?_⟩
  rw [← hm]
  exact hq.toP.toO.rd
def TabRd (w : World) (l : List Pv.Chg) (e : Ending) (w' : World) : Prop := Below w.heap.size w w' ∧ ∃ x n c, e = .returned (.slice x n c) ∧ RdC w' (.slice x n c) l
theorem xtable_rd {w : World} {gx : Nat} {vb vk vf vt : Value} {has : Bool} {tp fr : Int} {Q : Pv.Qry} {t : List Pv.Chg} (h : XV w gx vb vk vf has tp fr vt Q t) :
    Calls Tryz.prog 29 #[.pointer (some ⟨gx, 0, none⟩)] w fun e w' => TabRd w t e w' := by
  refine (xtable_any h).mono ?_
  rintro e w' ⟨hb, u, rfl, own⟩
  obtain ⟨x, n, c, rfl⟩ := own_sl own
  exact ⟨hb, x, n, c, rfl, RdC.ofOwn own⟩
theorem applied_small {w : World} {vb vk vf : Value} {has : Bool} {tp fr : Int} {Q : Pv.Qry} (h : QX w vb vk vf has tp fr Q) {t b : List Pv.Chg} (ht : Pv.TInv t) (h0 : (Pv.refusedF t b).1 = 0) : (Pv.appliedF Q t b).length ≤ 320000 ∧ ∀ x ∈ Pv.appliedF Q t b, x.2.1.length ≤ 1000 ∧ -320000 ≤ x.2.2 ∧ x.2.2 ≤ 320000 := by
  have s1 := outs_small h (ht.next h0).1
  have s2 := outs_small h ht
  have hS := Pv.SumOk.all (d := Q.fs.length) (.inl rfl) (Pv.outsP Q (Pv.linesP Q.ks Q.cs (Pv.tableF t b))) (Pv.SumOk.nil _) (Pv.outsP_ok Q _)
  have hS2 := Pv.SumOk.all (d := Q.fs.length) (.inr rfl) (Pv.outsP Q (Pv.linesP Q.ks Q.cs t)) hS.1 (Pv.outsP_ok Q _)
  rw [← Pv.toldP_eq ht h0]
  have hfl := h.fl
  unfold Pv.toldP
  refine ⟨Nat.le_trans (List.length_filter_le _ _) (Nat.le_trans hS2.1.len (by omega)), fun x hx => ?_⟩
  have hm := (List.mem_filter.1 hx).1
  have hb := hS2.1.bd x hm
  have hv := hS2.1.vals x hm
  exact ⟨by omega, by omega, by omega⟩
theorem rows_small {w : World} {vb vk vf : Value} {has : Bool} {tp fr : Int} {Q : Pv.Qry} (h : QX w vb vk vf has tp fr Q) {t : List Pv.Chg} (ht : Pv.TInv t) : (Pv.rowsF Q t).length ≤ 320000 ∧ ∀ x ∈ Pv.rowsF Q t, x.2.1.length ≤ 1000 ∧ -320000 ≤ x.2.2 ∧ x.2.2 ≤ 320000 := by
  have s2 := outs_small h ht
  have hS := Pv.SumOk.all (d := Q.fs.length) (.inl rfl) (Pv.outsP Q (Pv.linesP Q.ks Q.cs t)) (Pv.SumOk.nil _) (Pv.outsP_ok Q _)
  rw [← Pv.rowsP_eq ht]
  have hfl := h.fl
  unfold Pv.rowsP
  refine ⟨Nat.le_trans (List.length_filter_le _ _) (Nat.le_trans hS.1.len (by omega)), fun x hx => ?_⟩
  have hm := (List.mem_filter.1 hx).1
  have hb := hS.1.bd x hm
  have hv := hS.1.vals x hm
  exact ⟨by omega, by omega, by omega⟩
end Go.Proofs.YtcoofnhdbejnpaaGreatDoor

