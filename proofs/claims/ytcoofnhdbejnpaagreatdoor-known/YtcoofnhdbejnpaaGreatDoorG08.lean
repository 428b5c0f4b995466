/- Plain mathematics: lists, and a whole query, parsed. -/
import Derived.Test.YtcoofnhdbejnpaaGreatDoorG07
namespace Go.Proofs.YtcoofnhdbejnpaaGreatDoor
namespace Pk
open Pq (Bytes Tok PS)
def NotHead (w : Bytes) (r : List Tok) : Prop := ∀ t r', r = t :: r' → t.text ≠ w
theorem takes_nothead {toks : List Tok} {s : PS} {r : List Tok} {w : Bytes} (h : At toks s r) (hn : NotHead w r) : Pq.takes toks w s = false := by
  cases r with
  | nil => exact takes_nil h
  | cons t r => exact takes_no h (hn t r rfl)
theorem At.same {toks : List Tok} {s s' : PS} {r : List Tok} (h : At toks s r) (h1 : s'.failed = s.failed) (h2 : s'.next = s.next) : At toks s' r := ⟨h1.trans h.1, by rw [h2]; exact h.2⟩
/-- s, k tokens further, with more columns behind by -/
def byFw (s : PS) (k : Nat) (l : List Nat) : PS := { s with next := s.next + k, by' := s.by' ++ l }
def keyFw (s : PS) (k : Nat) (l : List (Nat × Bool)) : PS := { s with next := s.next + k, keys := s.keys ++ l }
def funFw (s : PS) (k : Nat) (l : List Pq.Fn) : PS := { s with next := s.next + k, funcs := s.funcs ++ l }
theorem by_step {toks : List Tok} {s : PS} {t : Tok} {r : List Tok} {c : Nat} (len : Nat) (h : At toks s (t :: r)) (hc : c < 3) (ht : t.text = Pq.colTxt c) (hn : c ∉ s.by') : Pq.byStep toks len s = byFw s 1 [c] := by
  obtain ⟨e1, e2⟩ := col_ok h hc ht
  have hno : Pq.hasC s.by' c = false := by unfold Pq.hasC; simpa using hn
  unfold Pq.byStep Pq.byMark Pq.colAt
  rw [e1, hno, e2]; rfl
theorem by_ok {toks : List Tok} (len : Nat) : ∀ (cs : List Nat) (s : PS) (ts r : List Tok), cs ≠ [] → (s.by' ++ cs).Nodup → (∀ c ∈ cs, c < 3) → Mt (kJoin (cs.map (fun c => kCol (c, false)))) ts → At toks s (ts ++ r) → NotHead Pq.wComma r → Pq.byR toks len s = byFw s ts.length cs
  | [], _, _, _, h, _, _, _, _, _ => absurd rfl h
  | [c], s, ts, r, _, hnd, hlt, m, h, hr => by
    obtain ⟨_, _, rfl, t1, m⟩ := Mt_cons m; obtain rfl := Mt_nil m
    simp only [List.cons_append, List.nil_append] at h
    have hnot : c ∉ s.by' := by rw [List.nodup_append] at hnd; intro hc; exact hnd.2.2 c hc c (by simp) rfl
    have hs := by_step len h (hlt c (by simp)) t1.1 hnot
    have hA : At toks (byFw s 1 [c]) r := h.step.same rfl rfl
    rw [Pq.byR_eq, hs, dif_neg (by rw [takes_nothead hA hr]; simp)]
    rfl
  | c :: d :: cs, s, ts, r, _, hnd, hlt, m, h, hr => by
    have m' : Mt (.w (Pq.colTxt c) :: .g [44] :: kJoin ((d :: cs).map (fun c => kCol (c, false)))) ts := m
    clear m
    obtain ⟨_, _, rfl, t1, m1⟩ := Mt_cons m'; obtain ⟨_, _, rfl, t2, m2⟩ := Mt_cons m1
    rename_i ts2
    simp only [List.cons_append] at h
    have hnot : c ∉ s.by' := by rw [List.nodup_append] at hnd; intro hc; exact hnd.2.2 c hc c (by simp) rfl
    have hs := by_step len h (hlt c (by simp)) t1.1 hnot
    have hA : At toks (byFw s 1 [c]) _ := h.step.same rfl rfl
    have hA2 : At toks (byFw s 1 [c]).step (ts2 ++ r) := hA.step
    have ih := by_ok len (d :: cs) (byFw s 1 [c]).step ts2 r (by simp) (by simpa [byFw, Pq.PS.step] using hnd) (fun x hx => hlt x (by simp [hx])) m2 hA2 hr
    rw [Pq.byR_eq, hs, dif_pos (takes_yes hA (w := Pq.wComma) t2.1), ih]
    simp [byFw, Pq.PS.step]; omega
theorem key_step {toks : List Tok} {s : PS} {ts r : List Tok} {c : Nat × Bool} (len : Nat) (m : Mt (kCol c) ts) (h : At toks s (ts ++ r)) (hc : c.1 < 3) (hn : c.1 ∉ s.keys.map Prod.fst) (hr : NotHead Pq.wDesc r) : Pq.keyStep toks len s = keyFw s ts.length [c] := by
  obtain ⟨c, d⟩ := c
  have hno : Pq.hasK s.keys c = false := by
    unfold Pq.hasK; rw [Bool.eq_false_iff]; intro ha
    rw [List.any_eq_true] at ha
    obtain ⟨x, hx, e⟩ := ha
    exact hn (List.mem_map.2 ⟨x, hx, by simpa using e⟩)
  cases d with
  | false =>
    obtain ⟨_, _, rfl, t1, m⟩ := Mt_cons m; obtain rfl := Mt_nil m
    simp only [List.cons_append, List.nil_append] at h
    obtain ⟨e1, e2⟩ := col_ok h hc t1.1
    have hd := takes_nothead h.step hr
    unfold Pq.keyStep Pq.keyMark Pq.keySt Pq.keyDesc Pq.colAt
    rw [e1, hno, e2, hd, Pq.takeS, hd]; rfl
  | true =>
    obtain ⟨_, _, rfl, t1, m⟩ := Mt_cons m; obtain ⟨_, _, rfl, t2, m⟩ := Mt_cons m; obtain rfl := Mt_nil m
    simp only [List.cons_append, List.nil_append] at h
    obtain ⟨e1, e2⟩ := col_ok h hc t1.1
    have hd := takes_yes h.step (w := Pq.wDesc) t2.1
    unfold Pq.keyStep Pq.keyMark Pq.keySt Pq.keyDesc Pq.colAt
    rw [e1, hno, e2, hd, Pq.takeS, hd]; rfl
theorem key_ok {toks : List Tok} (len : Nat) : ∀ (cs : List (Nat × Bool)) (s : PS) (ts r : List Tok), cs ≠ [] → ((s.keys ++ cs).map Prod.fst).Nodup → (∀ c ∈ cs, c.1 < 3) → Mt (kJoin (cs.map kCol)) ts → At toks s (ts ++ r) → NotHead Pq.wComma r → NotHead Pq.wDesc r → Pq.keyR toks len s = keyFw s ts.length cs
  | [], _, _, _, h, _, _, _, _, _, _ => absurd rfl h
  | [c], s, ts, r, _, hnd, hlt, m, h, hr, hr2 => by
    have hnot : c.1 ∉ s.keys.map Prod.fst := by
      rw [List.map_append, List.nodup_append] at hnd; intro hc; exact hnd.2.2 c.1 hc c.1 (by simp) rfl
    have hs := key_step len (show Mt (kCol c) ts from m) h (hlt c (by simp)) hnot hr2
    have hA : At toks (keyFw s ts.length [c]) r := (At.fw h).same rfl rfl
    rw [Pq.keyR_eq, hs, dif_neg (by rw [takes_nothead hA hr]; simp)]
  | c :: d :: cs, s, ts, r, _, hnd, hlt, m, h, hr, hr2 => by
    have m' : Mt (kCol c ++ (.g [44] :: kJoin ((d :: cs).map kCol))) ts := m
    obtain ⟨ta, tb, rfl, ma, mb⟩ := m'.split
    clear m m'
    obtain ⟨_, _, rfl, t2, m2⟩ := Mt_cons mb
    rename_i tcm ts2
    have h1 : At toks s (ta ++ (tcm :: (ts2 ++ r))) := by simpa using h
    have hnot : c.1 ∉ s.keys.map Prod.fst := by
      rw [List.map_append, List.nodup_append] at hnd; intro hc; exact hnd.2.2 c.1 hc c.1 (by simp) rfl
    have hs := key_step len ma h1 (hlt c (by simp)) hnot (fun t r' e => by injection e with e1 e2; subst e1; rw [show _ = _ from t2.1]; decide)
    have hA : At toks (keyFw s ta.length [c]) (tcm :: (ts2 ++ r)) := (At.fw h1).same rfl rfl
    have hA2 : At toks (keyFw s ta.length [c]).step (ts2 ++ r) := hA.step
    have ih := key_ok len (d :: cs) (keyFw s ta.length [c]).step ts2 r (by simp) (by simpa [keyFw, Pq.PS.step] using hnd) (fun x hx => hlt x (by simp [hx])) m2 hA2 hr hr2
    rw [Pq.keyR_eq, hs, dif_pos (takes_yes hA (w := Pq.wComma) t2.1), ih]
    simp [keyFw, Pq.PS.step]; omega
theorem fun_step {toks : List Tok} {s : PS} {ts r : List Tok} {f : Pq.Fn} (len : Nat) (hf : GoodFn f) (m : Mt (kFn f) ts) (h : At toks s (ts ++ r)) (hl : s.funcs.length < 4) : Pq.funStep toks len s = funFw s ts.length [f] := by
  have hm : Pq.funMark toks len s = s := by unfold Pq.funMark; rw [if_neg (by omega)]
  have := fn_ok len hf m h
  unfold Pq.funStep
  rw [hm, this]; rfl
theorem fun_ok {toks : List Tok} (len : Nat) : ∀ (fs : List Pq.Fn) (s : PS) (ts r : List Tok), fs ≠ [] → s.funcs.length + fs.length ≤ 4 → (∀ f ∈ fs, GoodFn f) → Mt (kJoin (fs.map kFn)) ts → At toks s (ts ++ r) → NotHead Pq.wComma r → Pq.funR toks len s = funFw s ts.length fs
  | [], _, _, _, h, _, _, _, _, _ => absurd rfl h
  | [f], s, ts, r, _, hl, hg, m, h, hr => by
    have hs := fun_step len (hg f (by simp)) (show Mt (kFn f) ts from m) h (by simp at hl; omega)
    have hA : At toks (funFw s ts.length [f]) r := (At.fw h).same rfl rfl
    rw [Pq.funR_eq, hs, dif_neg (by rw [takes_nothead hA hr]; simp)]
  | f :: g :: fs, s, ts, r, _, hl, hg, m, h, hr => by
    have m' : Mt (kFn f ++ (.g [44] :: kJoin ((g :: fs).map kFn))) ts := m
    obtain ⟨ta, tb, rfl, ma, mb⟩ := m'.split
    clear m m'
    obtain ⟨_, _, rfl, t2, m2⟩ := Mt_cons mb
    rename_i tcm ts2
    have h1 : At toks s (ta ++ (tcm :: (ts2 ++ r))) := by simpa using h
    have hs := fun_step len (hg f (by simp)) ma h1 (by simp at hl; omega)
    have hA : At toks (funFw s ta.length [f]) (tcm :: (ts2 ++ r)) := (At.fw h1).same rfl rfl
    have hA2 : At toks (funFw s ta.length [f]).step (ts2 ++ r) := hA.step
    have ih := fun_ok len (g :: fs) (funFw s ta.length [f]).step ts2 r (by simp) (by simp [funFw, Pq.PS.step] at hl ⊢; omega) (fun x hx => hg x (by simp [hx])) m2 hA2 hr
    rw [Pq.funR_eq, hs, dif_pos (takes_yes hA (w := Pq.wComma) t2.1), ih]
    simp [funFw, Pq.PS.step]; omega
end Pk
end Go.Proofs.YtcoofnhdbejnpaaGreatDoor

/- Plain mathematics: a whole query: its tokens, parsed; that they stand apart. -/
namespace Go.Proofs.YtcoofnhdbejnpaaGreatDoor
namespace Pk
open Pq (Bytes Tok PS)
structure Ast where
  by' : List Nat
  keys : List (Nat × Bool)
  funcs : List Pq.Fn
  top : Option (Nat × Nat)
structure GoodAst (q : Ast) : Prop where
  byN : q.by'.Nodup
  byL : ∀ c ∈ q.by', c < 3
  keys : GoodCols q.keys
  fne : q.funcs ≠ []
  fl : q.funcs.length ≤ 4
  fg : ∀ f ∈ q.funcs, GoodFn f
  top : ∀ a b, q.top = some (a, b) → a < 100 ∧ b < 100
def kTop (t : Option (Nat × Nat)) (full : Bool) : List Kd := match t with
  | none => []
  | some (a, b) => .w Pq.wTop :: .n a true :: (if full then [.w Pq.wFrom, .n b true] else [])
def kBy (l : List Nat) : List Kd := if l = [] then [] else .w Pq.wBy :: kJoin (l.map (fun c => kCol (c, false)))
def kQuery (q : Ast) (full : Bool) : List Kd := kBy q.by' ++ (.w Pq.wOrder :: (kJoin (q.keys.map kCol) ++ (.w Pq.wShow :: (kJoin (q.funcs.map kFn) ++ kTop q.top full))))
/-- what is read -/
def astPS (q : Ast) (n : Nat) (full : Bool) : PS :=
  { next := n, failed := false, by' := q.by', keys := q.keys, funcs := q.funcs, hasTop := q.top.isSome,
    top := (match q.top with | some (a, _) => (a : Int) | none => 0), frm := (match q.top with | some (_, b) => if full then (b : Int) else 0 | none => 0), many := -1, twice := -1, arg := -1 }
theorem nothead_of {w u : Bytes} {t : Tok} {r : List Tok} (h : t.text = u) (hne : u ≠ w) : NotHead w (t :: r) := fun t' r' e => by
  injection e with e1 e2; subst e1; rw [h]; exact hne
theorem q1_ok {toks : List Tok} (len : Nat) {q : Ast} (hq : GoodAst q) {ts r : List Tok} {t : Tok} (m : Mt (kBy q.by') ts) (ht : t.text = Pq.wOrder) (h : At toks Pq.ps0 (ts ++ t :: r)) : Pq.q1 toks len Pq.ps0 = byFw Pq.ps0 ts.length q.by' := by
  unfold kBy at m
  split at m
  · rename_i he
    obtain rfl := Mt_nil m
    unfold Pq.q1
    rw [takes_no h (by rw [ht]; decide)]
    simp [byFw, he, Pq.ps0]
  · rename_i hne
    obtain ⟨_, _, rfl, t1, m1⟩ := Mt_cons m
    simp only [List.cons_append] at h
    unfold Pq.q1
    rw [takes_yes h t1.1, if_pos rfl]
    have := by_ok len q.by' Pq.ps0.step _ _ hne (by simpa [Pq.ps0, Pq.PS.step] using hq.byN) hq.byL m1 h.step (nothead_of ht (by decide))
    rw [this]
    simp [byFw, Pq.ps0, Pq.PS.step, Nat.add_comm]
theorem top_ok {toks : List Tok} {s : PS} {ts : List Tok} {a b : Nat} {full : Bool} (ha : a < 100) (hb : b < 100) (m : Mt (.n a true :: (if full then [.w Pq.wFrom, .n b true] else [])) ts) (h : At toks s ts) :
    Pq.topS toks s = { s with next := s.next + ts.length, hasTop := true, top := (a : Int), frm := if full then (b : Int) else s.frm } := by
  obtain ⟨_, _, rfl, t1, m1⟩ := Mt_cons m
  have h' : At toks { s with hasTop := true } _ := h.same rfl rfl
  obtain ⟨n1, n2⟩ := num_yes h' ha t1
  have e1 : Pq.top1 toks s = { s with next := s.next + 1, hasTop := true, top := (a : Int) } := by unfold Pq.top1; rw [n1, n2]; rfl
  have hA : At toks { s with next := s.next + 1, hasTop := true, top := (a : Int) } _ := h'.step.same rfl rfl
  cases full with
  | false =>
    obtain rfl := Mt_nil m1
    unfold Pq.topS
    rw [e1, takes_nil hA]; rfl
  | true =>
    obtain ⟨_, _, rfl, t2, m2⟩ := Mt_cons m1; obtain ⟨_, _, rfl, t3, m3⟩ := Mt_cons m2; obtain rfl := Mt_nil m3
    unfold Pq.topS
    rw [e1, takes_yes hA (w := Pq.wFrom) t2.1]
    have hB : At toks ({ s with next := s.next + 1, hasTop := true, top := (a : Int) } : PS).step _ := hA.step
    obtain ⟨n3, n4⟩ := num_yes hB hb t3
    rw [n3, n4]
    simp [fw, Pq.PS.step]
theorem At.len {toks : List Tok} {s : PS} {r : List Tok} (h : At toks s r) (hl : s.next ≤ toks.length) : s.next + r.length = toks.length := by
  have := congrArg List.length h.2
  simp at this; omega
theorem query_ok {toks : List Tok} (len : Nat) {q : Ast} (hq : GoodAst q) {full : Bool} (m : Mt (kQuery q full) toks) : Pq.queryS toks len Pq.ps0 = astPS q toks.length full := by
  obtain ⟨ta, tb, e0, ma, mb⟩ := Mt.split (show Mt (kBy q.by' ++ (.w Pq.wOrder :: (kJoin (q.keys.map kCol) ++ (.w Pq.wShow :: (kJoin (q.funcs.map kFn) ++ kTop q.top full))))) toks from m)
  obtain ⟨_, _, rfl, to, mc⟩ := Mt_cons mb
  rename_i tord tc
  obtain ⟨tk, td, e1, mk, md⟩ := Mt.split mc
  obtain ⟨_, _, rfl, tsh, me⟩ := Mt_cons md
  rename_i tshow te
  obtain ⟨tf, tt, e2, mf, mt⟩ := Mt.split me
  subst e1 e2
  have h0 : At toks Pq.ps0 (ta ++ tord :: (tk ++ tshow :: (tf ++ tt))) := ⟨rfl, by simpa [Pq.ps0] using e0⟩
  have hlen : toks.length = ta.length + (1 + (tk.length + (1 + (tf.length + tt.length)))) := by rw [e0]; simp; omega
  have hto : tord.text = Pq.wOrder := to.1
  have hts : tshow.text = Pq.wShow := tsh.1
  have hQ1 := q1_ok len hq ma hto h0
  have h1 : At toks (byFw Pq.ps0 ta.length q.by') (tord :: (tk ++ tshow :: (tf ++ tt))) := (At.fw h0).same rfl rfl
  have hw := want_yes h1 hto
  have h2 := h1.step
  have hQ2 : Pq.q2 toks len Pq.ps0 = keyFw (fw (byFw Pq.ps0 ta.length q.by') 1) tk.length q.keys := by
    unfold Pq.q2
    rw [hQ1, hw]
    exact key_ok len q.keys _ tk _ hq.keys.ne (by simpa [byFw, fw, Pq.ps0] using hq.keys.nodup) hq.keys.lt mk h2 (nothead_of hts (by decide)) (nothead_of hts (by decide))
  have h3 : At toks (keyFw (fw (byFw Pq.ps0 ta.length q.by') 1) tk.length q.keys) (tshow :: (tf ++ tt)) := (At.fw h2).same rfl rfl
  have hw2 := want_yes h3 hts
  have h4 := h3.step
  have hnh : NotHead Pq.wComma tt := by
    unfold kTop at mt
    split at mt
    · obtain rfl := Mt_nil mt; intro t r' e; cases e
    · obtain ⟨_, _, rfl, t1, m1⟩ := Mt_cons mt; exact nothead_of t1.1 (by decide)
  have hQ3 : Pq.q3 toks len Pq.ps0 = funFw (fw (keyFw (fw (byFw Pq.ps0 ta.length q.by') 1) tk.length q.keys) 1) tf.length q.funcs := by
    unfold Pq.q3
    rw [hQ2, hw2]
    exact fun_ok len q.funcs _ tf _ hq.fne (by simpa [byFw, fw, keyFw, Pq.ps0] using hq.fl) hq.fg mf h4 hnh
  have h5 : At toks (funFw (fw (keyFw (fw (byFw Pq.ps0 ta.length q.by') 1) tk.length q.keys) 1) tf.length q.funcs) tt := (At.fw h4).same rfl rfl
  have hend : ∀ s : PS, s.next = toks.length → Pq.endS toks s = s := fun s hs => by unfold Pq.endS; rw [if_neg (by omega)]
  unfold Pq.queryS Pq.q4
  rw [hQ3]
  unfold kTop at mt
  split at mt
  · rename_i ht
    obtain rfl := Mt_nil mt
    rw [takes_nil h5, if_neg (by simp), hend _ (by simp [funFw, fw, keyFw, byFw, Pq.ps0, hlen]; omega)]
    simp [astPS, ht, funFw, fw, keyFw, byFw, Pq.ps0, hlen]; omega
  · rename_i a b ht
    obtain ⟨ha, hb⟩ := hq.top a b ht
    obtain ⟨_, _, rfl, t1, m1⟩ := Mt_cons mt
    rw [takes_yes h5 (w := Pq.wTop) t1.1, if_pos rfl]
    have hT := top_ok ha hb m1 h5.step
    rw [show (funFw (fw (keyFw (fw (byFw Pq.ps0 ta.length q.by') 1) tk.length q.keys) 1) tf.length q.funcs).step = fw (funFw (fw (keyFw (fw (byFw Pq.ps0 ta.length q.by') 1) tk.length q.keys) 1) tf.length q.funcs) 1 from rfl, hT]
    rw [hend _ (by simp [funFw, fw, keyFw, byFw, Pq.ps0, hlen]; omega)]
    simp [astPS, ht, funFw, fw, keyFw, byFw, Pq.ps0, hlen]; omega
end Pk
end Go.Proofs.YtcoofnhdbejnpaaGreatDoor

/- Plain mathematics: the tokens of a query stand apart; its plain form. -/
namespace Go.Proofs.YtcoofnhdbejnpaaGreatDoor
namespace Pk
open Pq (Bytes Tok PS)
theorem adj_any {ks : List Kd} (h : Adj false ks) (ps : Bool) : Adj ps ks := by
  cases ks with
  | nil => trivial
  | cons k r => exact ⟨.inr (by rcases h.1 with h | h; · cases h
                                · exact h), h.2⟩
theorem adj_app {ls : List Kd} (hl : Adj false ls) : ∀ {ks : List Kd} {ps : Bool}, Adj ps ks → Adj ps (ks ++ ls)
  | [], ps, _ => adj_any hl ps
  | _ :: _, _, h => ⟨h.1, h.2.1, adj_app hl h.2.2⟩
theorem tkw {t : Bytes} (h0 : t ≠ []) (h8 : t.length ≤ 8) (h : ∀ c ∈ t, Pq.isLet c = true) : Pq.Tk t := .word t h0 h8 h
theorem tk_kind (k : Nat) (hk : k < 12) : Pq.Tk (Pq.kindTxt k) := by
  have hall : ∀ k : Fin 12, Pq.kindTxt k.val ≠ [] ∧ (Pq.kindTxt k.val).length ≤ 8 ∧ ∀ c ∈ Pq.kindTxt k.val, Pq.isLet c = true := by decide +kernel
  have := hall ⟨k, hk⟩
  exact tkw this.1 this.2.1 this.2.2
theorem tk_col (k : Nat) (hk : k < 3) : Pq.Tk (Pq.colTxt k) := by
  have hall : ∀ k : Fin 3, Pq.colTxt k.val ≠ [] ∧ (Pq.colTxt k.val).length ≤ 8 ∧ ∀ c ∈ Pq.colTxt k.val, Pq.isLet c = true := by decide +kernel
  have := hall ⟨k, hk⟩
  exact tkw this.1 this.2.1 this.2.2
theorem adj_w {t : Bytes} {r : List Kd} (ht : Pq.Tk t) (hr : Adj false r) {ps : Bool} : Adj ps (.w t :: r) := ⟨.inr trivial, ht, hr⟩
theorem adj_n {k : Nat} {r : List Kd} (hk : k < 100) (hr : Adj false r) {ps : Bool} : Adj ps (.n k true :: r) := ⟨.inr rfl, hk, hr⟩
theorem adj_g {c : UInt8} {r : List Kd} (hc : Pq.isSgn c = true) (hr : Adj true r) {ps : Bool} : Adj ps (.g [c] :: r) := by
  have e : (Kd.g [c]).isSign = true := hc
  exact ⟨.inr e, .sign c hc, by rw [e]; exact hr⟩
theorem adj_nil {ps : Bool} : Adj ps [] := trivial
theorem adj_col (c : Nat × Bool) (hc : c.1 < 3) : Adj false (kCol c) := by
  obtain ⟨c, d⟩ := c
  cases d
  · exact adj_w (tk_col c hc) adj_nil
  · exact adj_w (tk_col c hc) (adj_w (tkw (by decide) (by decide) (by decide)) adj_nil)
theorem adj_join : ∀ (xs : List (List Kd)), (∀ x ∈ xs, Adj false x) → Adj false (kJoin xs)
  | [], _ => trivial
  | [x], h => h x (by simp)
  | x :: y :: r, h => by
    have ih := adj_join (y :: r) (fun z hz => h z (by simp [hz]))
    exact adj_app (adj_g (by decide) (adj_any ih true)) (h x (by simp))
theorem toNat_lt {n : Int} (h : Pq.goodNum n) : n.toNat < 100 := by have := h.1; have := h.2; omega
theorem adj_edge (e : Pq.Edge) (h : GoodEdge e) : Adj false (kEdge e) := by
  have hn := toNat_lt h.num
  unfold kEdge
  repeat' split
  · exact adj_w (tkw (by decide) (by decide) (by decide)) adj_nil
  · exact adj_w (tkw (by decide) (by decide) (by decide)) adj_nil
  · exact adj_w (tkw (by decide) (by decide) (by decide)) adj_nil
  · exact adj_n hn (adj_w (tkw (by decide) (by decide) (by decide)) adj_nil)
  · exact adj_n hn (adj_w (tkw (by decide) (by decide) (by decide)) adj_nil)
theorem adj_frame (f : Pq.Frame) (h : GoodFrame f) : Adj false (kFrame f) := by
  induction f, h using GoodFrame_ind with
  | all => exact adj_w (tkw (by decide) (by decide) (by decide)) adj_nil
  | peers => exact adj_w (tkw (by decide) (by decide) (by decide)) adj_nil
  | near n hn => exact adj_w (tkw (by decide) (by decide) (by decide)) (adj_n hn adj_nil)
  | between a b ha hb => exact adj_app (adj_w (tkw (by decide) (by decide) (by decide)) (adj_edge b hb)) (adj_edge a ha)
theorem adj_letter {c : Nat} {r : List Kd} (hc : c < 3) (hr : Adj false r) : Adj true (.g (Pq.colTxt c) :: r) := by
  refine ⟨.inl rfl, tk_col c hc, ?_⟩
  exact adj_any hr _
theorem adj_fn (f : Pq.Fn) (h : GoodFn f) : Adj false (kFn f) := by
  induction f, h using GoodFn_ind with
  | plain k hk =>
    have : kFn ⟨k, 0, 0, Pq.fr0⟩ = [.w (Pq.kindTxt k)] := by simp [kFn, hk]
    rw [this]; exact adj_w (tk_kind k (by omega)) adj_nil
  | tile n hn h0 =>
    have : kFn ⟨3, 0, n, Pq.fr0⟩ = [.w (Pq.kindTxt 3), .g [40], .n n false, .g [41]] := rfl
    rw [this]
    have hnf : Adj true [.n n false, .g [41]] := ⟨.inl rfl, hn, adj_g (by decide) adj_nil⟩
    exact adj_w (tk_kind 3 (by omega)) (adj_g (by decide) hnf)
  | lag k c n hk hc hn =>
    have : kFn ⟨k, c, n, Pq.fr0⟩ = [.w (Pq.kindTxt k), .g [40], .g (Pq.colTxt c), .g [44], .n n true, .g [41]] := by rcases hk with rfl | rfl <;> rfl
    rw [this]
    exact adj_w (tk_kind k (by omega)) (adj_g (by decide) (adj_letter hc (adj_g (by decide) (adj_n hn (adj_g (by decide) adj_nil)))))
  | over k c f h6 hk hc hf =>
    have : kFn ⟨k, c, 0, f⟩ = .w (Pq.kindTxt k) :: .g [40] :: .g (Pq.colTxt c) :: .g [44] :: (kFrame f ++ [.g [41]]) := by
      unfold kFn; rw [if_neg (by simp; omega), if_neg (by simp; omega), if_neg (by simp; omega)]; simp
    rw [this]
    exact adj_w (tk_kind k hk) (adj_g (by decide) (adj_letter hc (adj_g (by decide) (adj_any (adj_app (adj_g (by decide) adj_nil) (adj_frame f hf)) true))))
theorem adj_query {q : Ast} (hq : GoodAst q) (full : Bool) : Adj true (kQuery q full) := by
  have hkeys : Adj false (kJoin (q.keys.map kCol)) := adj_join _ (fun x hx => by obtain ⟨c, hc, rfl⟩ := List.mem_map.1 hx; exact adj_col c (hq.keys.lt c hc))
  have hfns : Adj false (kJoin (q.funcs.map kFn)) := adj_join _ (fun x hx => by obtain ⟨c, hc, rfl⟩ := List.mem_map.1 hx; exact adj_fn c (hq.fg c hc))
  have htop : Adj false (kTop q.top full) := by
    unfold kTop
    split
    · trivial
    · rename_i a b e
      obtain ⟨ha, hb⟩ := hq.top a b e
      refine adj_w (tkw (by decide) (by decide) (by decide)) (adj_n ha ?_)
      split
      · exact adj_w (tkw (by decide) (by decide) (by decide)) (adj_n hb adj_nil)
      · trivial
  have hrest : Adj false (.w Pq.wOrder :: (kJoin (q.keys.map kCol) ++ (.w Pq.wShow :: (kJoin (q.funcs.map kFn) ++ kTop q.top full)))) :=
    adj_w (tkw (by decide) (by decide) (by decide)) (adj_app (adj_w (tkw (by decide) (by decide) (by decide)) (adj_app htop hfns)) hkeys)
  unfold kQuery kBy
  split
  · exact adj_any hrest true
  · refine adj_app hrest (adj_w (tkw (by decide) (by decide) (by decide)) ?_)
    exact adj_join _ (fun x hx => by obtain ⟨c, hc, rfl⟩ := List.mem_map.1 hx; exact adj_col (c, false) (hq.byL c hc))
/-! the plain form -/
theorem plainOf_app : ∀ (ks ls : List Kd) (p : Bytes), plainOf p (ks ++ ls) = plainOf (plainOf p ks) ls
  | [], _, _ => rfl
  | _ :: ks, ls, _ => plainOf_app ks ls _
theorem plainOf_w {p t : Bytes} (hp : p ≠ []) (r : List Kd) : plainOf p (.w t :: r) = plainOf (p ++ 32 :: t) r := by
  have : p.isEmpty = false := by cases p with | nil => exact absurd rfl hp | cons => rfl
  simp [plainOf, Kd.psep, Kd.ptext, this]
theorem plainOf_g (p t : Bytes) (r : List Kd) : plainOf p (.g t :: r) = plainOf (p ++ t) r := by simp [plainOf, Kd.psep, Kd.ptext]
theorem plainOf_n (p : Bytes) (k : Nat) (r : List Kd) : plainOf p (.n k true :: r) = plainOf (p ++ 32 :: Pq.numTxt k) r := by simp [plainOf, Kd.psep, Kd.ptext]
theorem plainOf_nf (p : Bytes) (k : Nat) (r : List Kd) : plainOf p (.n k false :: r) = plainOf (p ++ Pq.numTxt k) r := by simp [plainOf, Kd.psep, Kd.ptext]
theorem plainOf_nil (p : Bytes) : plainOf p [] = p := rfl
theorem pl_join {α : Type} (K : α → List Kd) (T : α → Bytes) : ∀ (xs : List α) (p : Bytes), xs ≠ [] → p ≠ [] → (∀ x ∈ xs, ∀ p : Bytes, p ≠ [] → plainOf p (K x) = p ++ 32 :: T x) → plainOf p (kJoin (xs.map K)) = p ++ 32 :: Pq.joinTxt (xs.map T)
  | [], _, h, _, _ => absurd rfl h
  | [x], p, _, hp, h => h x (by simp) p hp
  | x :: y :: r, p, _, hp, h => by
    have e : kJoin ((x :: y :: r).map K) = K x ++ (.g [44] :: kJoin ((y :: r).map K)) := rfl
    have e2 : Pq.joinTxt ((x :: y :: r).map T) = T x ++ (44 :: 32 :: Pq.joinTxt ((y :: r).map T)) := rfl
    rw [e, e2, plainOf_app, h x (by simp) p hp, plainOf_g, pl_join K T (y :: r) _ (by simp) (by simp) (fun z hz => h z (by simp [hz]))]
    simp
theorem toNat_cast {n : Int} (h : 0 ≤ n) : ((n.toNat : Nat) : Int) = n := by omega
theorem pl_edge {p : Bytes} (hp : p ≠ []) {e : Pq.Edge} (he : GoodEdge e) : plainOf p (kEdge e) = p ++ 32 :: Pq.edgeTxt e := by
  have hc := toNat_cast he.num.1
  have h2 : p ++ 32 :: Pq.numTxt e.num ≠ [] := by simp
  unfold kEdge Pq.edgeTxt
  repeat' split
  all_goals simp [plainOf_w hp, plainOf_n, plainOf_nil, hc, plainOf_w h2]
theorem pl_frame {p : Bytes} (hp : p ≠ []) {f : Pq.Frame} (hf : GoodFrame f) : plainOf p (kFrame f) = p ++ 32 :: Pq.frameTxt f := by
  induction f, hf using GoodFrame_ind with
  | all => simp [kFrame, Pq.frameTxt, plainOf_w hp, plainOf_nil]
  | peers => simp [kFrame, Pq.frameTxt, plainOf_w hp, plainOf_nil]
  | near n hn => simp [kFrame, Pq.frameTxt, plainOf_w hp, plainOf_n, plainOf_nil]
  | between a b ha hb =>
    have e : kFrame ⟨3, 0, a, b⟩ = kEdge a ++ (.w Pq.wTo :: kEdge b) := rfl
    have e2 : Pq.frameTxt ⟨3, 0, a, b⟩ = Pq.edgeTxt a ++ (32 :: Pq.wTo ++ [32]) ++ Pq.edgeTxt b := rfl
    rw [e, e2, plainOf_app, pl_edge hp ha, plainOf_w (by simp), pl_edge (by simp) hb]
    simp
theorem pl_fn {p : Bytes} (hp : p ≠ []) {f : Pq.Fn} (hf : GoodFn f) : plainOf p (kFn f) = p ++ 32 :: Pq.fnTxt f := by
  induction f, hf using GoodFn_ind with
  | plain k hk => simp [kFn, Pq.fnTxt, hk, plainOf_w hp, plainOf_nil]
  | tile n hn h0 =>
    have e : kFn ⟨3, 0, n, Pq.fr0⟩ = [.w (Pq.kindTxt 3), .g [40], .n n false, .g [41]] := rfl
    have e2 : Pq.fnTxt ⟨3, 0, n, Pq.fr0⟩ = Pq.kindTxt 3 ++ (Pq.wOpen ++ Pq.numTxt n) ++ Pq.wClose := rfl
    rw [e, e2, plainOf_w hp, plainOf_g, plainOf_nf, plainOf_g, plainOf_nil]
    simp [Pq.wOpen, Pq.wClose]
  | lag k c n hk hc hn =>
    have e : kFn ⟨k, c, n, Pq.fr0⟩ = [.w (Pq.kindTxt k), .g [40], .g (Pq.colTxt c), .g [44], .n n true, .g [41]] := by rcases hk with rfl | rfl <;> rfl
    have e2 : Pq.fnTxt ⟨k, c, n, Pq.fr0⟩ = Pq.kindTxt k ++ (Pq.wOpen ++ Pq.colTxt c) ++ (Pq.wComma ++ 32 :: Pq.numTxt n) ++ Pq.wClose := by rcases hk with rfl | rfl <;> rfl
    rw [e, e2, plainOf_w hp, plainOf_g, plainOf_g, plainOf_g, plainOf_n, plainOf_g, plainOf_nil]
    simp [Pq.wOpen, Pq.wClose, Pq.wComma]
  | over k c f h6 hk hc hf =>
    have e : kFn ⟨k, c, 0, f⟩ = .w (Pq.kindTxt k) :: .g [40] :: .g (Pq.colTxt c) :: .g [44] :: (kFrame f ++ [.g [41]]) := by
      unfold kFn; rw [if_neg (by simp; omega), if_neg (by simp; omega), if_neg (by simp; omega)]; simp
    have e2 : Pq.fnTxt ⟨k, c, 0, f⟩ = Pq.kindTxt k ++ (Pq.wOpen ++ Pq.colTxt c) ++ (Pq.wComma ++ 32 :: Pq.frameTxt f) ++ Pq.wClose := by
      unfold Pq.fnTxt; rw [if_neg (by simp; omega), if_neg (by simp; omega), if_neg (by simp; omega)]
    rw [e, e2, plainOf_w hp, plainOf_g, plainOf_g, plainOf_g, plainOf_app, pl_frame (by simp) hf, plainOf_g, plainOf_nil]
    simp [Pq.wOpen, Pq.wClose, Pq.wComma]
end Pk
end Go.Proofs.YtcoofnhdbejnpaaGreatDoor

/- Plain mathematics: a query of the maker's has its plain form, which is its own. -/
namespace Go.Proofs.YtcoofnhdbejnpaaGreatDoor
namespace Pk
open Pq (Bytes Tok PS)
theorem canon_wr : ∀ (ks : List Kd) (p : Bytes), Wr ks ⟨0, p, p⟩ ⟨0, plainOf p ks, plainOf p ks⟩
  | [], p => Wr.nil _
  | k :: ks, p => by
    have ih := canon_wr ks (p ++ k.psep p.isEmpty ++ k.ptext)
    have h1 : Wr [k] ⟨0, p, p⟩ ⟨0, p ++ k.psep p.isEmpty ++ k.ptext, p ++ k.psep p.isEmpty ++ k.ptext⟩ := by
      refine ⟨[(k.psep p.isEmpty, k.ptext)], .cons ?_ ?_ rfl rfl (.nil rfl rfl)⟩
      · have h32 : Pq.isBlk 32 = true := by decide
        induction k using Kd_ind with
        | w t => cases hp : p.isEmpty <;> simp [Kd.Sep, Kd.psep, h32]
        | g t => simp [Kd.Sep, Kd.psep]
        | n a b => cases b <;> simp [Kd.Sep, Kd.psep, h32]
      · induction k using Kd_ind with
        | w t => rfl
        | g t => rfl
        | n a b => exact .inl rfl
    exact h1.app ih
end Pk
end Go.Proofs.YtcoofnhdbejnpaaGreatDoor

