/- Plain mathematics: a whole query: its tokens, parsed; that they stand apart. -/
import Derived.Test.YtcoofnhdbejnpaaDoorMg
namespace Go.Proofs.YtcoofnhdbejnpaaDoor
namespace Pk
open Pq (Bytes Tok PS)
structure Ast where
  by' : List Nat
  keys : List (Nat × Bool)
  funcs : List Pq.Fn
  top : Option (Nat × Nat)
structure GoodAst (q : Ast) : Prop where
  byN : q.by'.Nodup
  byL : ∀ c ∈ q.by', c < 3
  keys : GoodCols q.keys
  fne : q.funcs ≠ []
  fl : q.funcs.length ≤ 4
  fg : ∀ f ∈ q.funcs, GoodFn f
  top : ∀ a b, q.top = some (a, b) → a < 100 ∧ b < 100
def kTop (t : Option (Nat × Nat)) (full : Bool) : List Kd := match t with
  | none => []
  | some (a, b) => .w Pq.wTop :: .n a true :: (if full then [.w Pq.wFrom, .n b true] else [])
def kBy (l : List Nat) : List Kd := if l = [] then [] else .w Pq.wBy :: kJoin (l.map (fun c => kCol (c, false)))
def kQuery (q : Ast) (full : Bool) : List Kd := kBy q.by' ++ (.w Pq.wOrder :: (kJoin (q.keys.map kCol) ++ (.w Pq.wShow :: (kJoin (q.funcs.map kFn) ++ kTop q.top full))))
/-- what is read -/
def astPS (q : Ast) (n : Nat) (full : Bool) : PS :=
  { next := n, failed := false, by' := q.by', keys := q.keys, funcs := q.funcs, hasTop := q.top.isSome,
    top := (match q.top with | some (a, _) => (a : Int) | none => 0), frm := (match q.top with | some (_, b) => if full then (b : Int) else 0 | none => 0), many := -1, twice := -1, arg := -1 }
theorem nothead_of {w u : Bytes} {t : Tok} {r : List Tok} (h : t.text = u) (hne : u ≠ w) : NotHead w (t :: r) := fun t' r' e => by
  injection e with e1 e2; subst e1; rw [h]; exact hne
theorem q1_ok {toks : List Tok} (len : Nat) {q : Ast} (hq : GoodAst q) {ts r : List Tok} {t : Tok} (m : Mt (kBy q.by') ts) (ht : t.text = Pq.wOrder) (h : At toks Pq.ps0 (ts ++ t :: r)) : Pq.q1 toks len Pq.ps0 = byFw Pq.ps0 ts.length q.by' := by
  unfold kBy at m
  split at m
  · rename_i he
    obtain rfl := Mt_nil m
    unfold Pq.q1
    rw [takes_no h (by rw [ht]; decide)]
    simp [byFw, he, Pq.ps0]
  · rename_i hne
    obtain ⟨_, _, rfl, t1, m1⟩ := Mt_cons m
    simp only [List.cons_append] at h
    unfold Pq.q1
    rw [takes_yes h t1.1, if_pos rfl]
    have := by_ok len q.by' Pq.ps0.step _ _ hne (by simpa [Pq.ps0, Pq.PS.step] using hq.byN) hq.byL m1 h.step (nothead_of ht (by decide))
    rw [this]
    simp [byFw, Pq.ps0, Pq.PS.step, Nat.add_comm]
theorem top_ok {toks : List Tok} {s : PS} {ts : List Tok} {a b : Nat} {full : Bool} (ha : a < 100) (hb : b < 100) (m : Mt (.n a true :: (if full then [.w Pq.wFrom, .n b true] else [])) ts) (h : At toks s ts) :
    Pq.topS toks s = { s with next := s.next + ts.length, hasTop := true, top := (a : Int), frm := if full then (b : Int) else s.frm } := by
  obtain ⟨_, _, rfl, t1, m1⟩ := Mt_cons m
  have h' : At toks { s with hasTop := true } _ := h.same rfl rfl
  obtain ⟨n1, n2⟩ := num_yes h' ha t1
  have e1 : Pq.top1 toks s = { s with next := s.next + 1, hasTop := true, top := (a : Int) } := by unfold Pq.top1; rw [n1, n2]; rfl
  have hA : At toks { s with next := s.next + 1, hasTop := true, top := (a : Int) } _ := h'.step.same rfl rfl
  cases full with
  | false =>
    obtain rfl := Mt_nil m1
    unfold Pq.topS
    rw [e1, takes_nil hA]; rfl
  | true =>
    obtain ⟨_, _, rfl, t2, m2⟩ := Mt_cons m1; obtain ⟨_, _, rfl, t3, m3⟩ := Mt_cons m2; obtain rfl := Mt_nil m3
    unfold Pq.topS
    rw [e1, takes_yes hA (w := Pq.wFrom) t2.1]
    have hB : At toks ({ s with next := s.next + 1, hasTop := true, top := (a : Int) } : PS).step _ := hA.step
    obtain ⟨n3, n4⟩ := num_yes hB hb t3
    rw [n3, n4]
    simp [fw, Pq.PS.step]
theorem At.len {toks : List Tok} {s : PS} {r : List Tok} (h : At toks s r) (hl : s.next ≤ toks.length) : s.next + r.length = toks.length := by
  have := congrArg List.length h.2
  simp at this; omega
theorem query_ok {toks : List Tok} (len : Nat) {q : Ast} (hq : GoodAst q) {full : Bool} (m : Mt (kQuery q full) toks) : Pq.queryS toks len Pq.ps0 = astPS q toks.length full := by
  obtain ⟨ta, tb, e0, ma, mb⟩ := Mt.split (show Mt (kBy q.by' ++ (.w Pq.wOrder :: (kJoin (q.keys.map kCol) ++ (.w Pq.wShow :: (kJoin (q.funcs.map kFn) ++ kTop q.top full))))) toks from m)
  obtain ⟨_, _, rfl, to, mc⟩ := Mt_cons mb
  rename_i tord tc
  obtain ⟨tk, td, e1, mk, md⟩ := Mt.split mc
  obtain ⟨_, _, rfl, tsh, me⟩ := Mt_cons md
  rename_i tshow te
  obtain ⟨tf, tt, e2, mf, mt⟩ := Mt.split me
  subst e1 e2
  have h0 : At toks Pq.ps0 (ta ++ tord :: (tk ++ tshow :: (tf ++ tt))) := ⟨rfl, by simpa [Pq.ps0] using e0⟩
  have hlen : toks.length = ta.length + (1 + (tk.length + (1 + (tf.length + tt.length)))) := by rw [e0]; simp; omega
  have hto : tord.text = Pq.wOrder := to.1
  have hts : tshow.text = Pq.wShow := tsh.1
  have hQ1 := q1_ok len hq ma hto h0
  have h1 : At toks (byFw Pq.ps0 ta.length q.by') (tord :: (tk ++ tshow :: (tf ++ tt))) := (At.fw h0).same rfl rfl
  have hw := want_yes h1 hto
  have h2 := h1.step
  have hQ2 : Pq.q2 toks len Pq.ps0 = keyFw (fw (byFw Pq.ps0 ta.length q.by') 1) tk.length q.keys := by
    unfold Pq.q2
    rw [hQ1, hw]
    exact key_ok len q.keys _ tk _ hq.keys.ne (by simpa [byFw, fw, Pq.ps0] using hq.keys.nodup) hq.keys.lt mk h2 (nothead_of hts (by decide)) (nothead_of hts (by decide))
  have h3 : At toks (keyFw (fw (byFw Pq.ps0 ta.length q.by') 1) tk.length q.keys) (tshow :: (tf ++ tt)) := (At.fw h2).same rfl rfl
  have hw2 := want_yes h3 hts
  have h4 := h3.step
  have hnh : NotHead Pq.wComma tt := by
    unfold kTop at mt
    split at mt
    · obtain rfl := Mt_nil mt; intro t r' e; cases e
    · obtain ⟨_, _, rfl, t1, m1⟩ := Mt_cons mt; exact nothead_of t1.1 (by decide)
  have hQ3 : Pq.q3 toks len Pq.ps0 = funFw (fw (keyFw (fw (byFw Pq.ps0 ta.length q.by') 1) tk.length q.keys) 1) tf.length q.funcs := by
    unfold Pq.q3
    rw [hQ2, hw2]
    exact fun_ok len q.funcs _ tf _ hq.fne (by simpa [byFw, fw, keyFw, Pq.ps0] using hq.fl) hq.fg mf h4 hnh
  have h5 : At toks (funFw (fw (keyFw (fw (byFw Pq.ps0 ta.length q.by') 1) tk.length q.keys) 1) tf.length q.funcs) tt := (At.fw h4).same rfl rfl
  have hend : ∀ s : PS, s.next = toks.length → Pq.endS toks s = s := fun s hs => by unfold Pq.endS; rw [if_neg (by omega)]
  unfold Pq.queryS Pq.q4
  rw [hQ3]
  unfold kTop at mt
  split at mt
  · rename_i ht
    obtain rfl := Mt_nil mt
    rw [takes_nil h5, if_neg (by simp), hend _ (by simp [funFw, fw, keyFw, byFw, Pq.ps0, hlen]; omega)]
    simp [astPS, ht, funFw, fw, keyFw, byFw, Pq.ps0, hlen]; omega
  · rename_i a b ht
    obtain ⟨ha, hb⟩ := hq.top a b ht
    obtain ⟨_, _, rfl, t1, m1⟩ := Mt_cons mt
    rw [takes_yes h5 (w := Pq.wTop) t1.1, if_pos rfl]
    have hT := top_ok ha hb m1 h5.step
    rw [show (funFw (fw (keyFw (fw (byFw Pq.ps0 ta.length q.by') 1) tk.length q.keys) 1) tf.length q.funcs).step = fw (funFw (fw (keyFw (fw (byFw Pq.ps0 ta.length q.by') 1) tk.length q.keys) 1) tf.length q.funcs) 1 from rfl, hT]
    rw [hend _ (by simp [funFw, fw, keyFw, byFw, Pq.ps0, hlen]; omega)]
    simp [astPS, ht, funFw, fw, keyFw, byFw, Pq.ps0, hlen]; omega
end Pk
end Go.Proofs.YtcoofnhdbejnpaaDoor
