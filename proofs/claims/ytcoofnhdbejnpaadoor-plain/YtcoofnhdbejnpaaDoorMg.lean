/- Plain mathematics: lists, and a whole query, parsed. -/
import Derived.Test.YtcoofnhdbejnpaaDoorMf
namespace Go.Proofs.YtcoofnhdbejnpaaDoor
namespace Pk
open Pq (Bytes Tok PS)
def NotHead (w : Bytes) (r : List Tok) : Prop := ∀ t r', r = t :: r' → t.text ≠ w
theorem takes_nothead {toks : List Tok} {s : PS} {r : List Tok} {w : Bytes} (h : At toks s r) (hn : NotHead w r) : Pq.takes toks w s = false := by
  cases r with
  | nil => exact takes_nil h
  | cons t r => exact takes_no h (hn t r rfl)
theorem At.same {toks : List Tok} {s s' : PS} {r : List Tok} (h : At toks s r) (h1 : s'.failed = s.failed) (h2 : s'.next = s.next) : At toks s' r := ⟨h1.trans h.1, by rw [h2]; exact h.2⟩
/-- s, k tokens further, with more columns behind by -/
def byFw (s : PS) (k : Nat) (l : List Nat) : PS := { s with next := s.next + k, by' := s.by' ++ l }
def keyFw (s : PS) (k : Nat) (l : List (Nat × Bool)) : PS := { s with next := s.next + k, keys := s.keys ++ l }
def funFw (s : PS) (k : Nat) (l : List Pq.Fn) : PS := { s with next := s.next + k, funcs := s.funcs ++ l }
theorem by_step {toks : List Tok} {s : PS} {t : Tok} {r : List Tok} {c : Nat} (len : Nat) (h : At toks s (t :: r)) (hc : c < 3) (ht : t.text = Pq.colTxt c) (hn : c ∉ s.by') : Pq.byStep toks len s = byFw s 1 [c] := by
  obtain ⟨e1, e2⟩ := col_ok h hc ht
  have hno : Pq.hasC s.by' c = false := by unfold Pq.hasC; simpa using hn
  unfold Pq.byStep Pq.byMark Pq.colAt
  rw [e1, hno, e2]; rfl
theorem by_ok {toks : List Tok} (len : Nat) : ∀ (cs : List Nat) (s : PS) (ts r : List Tok), cs ≠ [] → (s.by' ++ cs).Nodup → (∀ c ∈ cs, c < 3) → Mt (kJoin (cs.map (fun c => kCol (c, false)))) ts → At toks s (ts ++ r) → NotHead Pq.wComma r → Pq.byR toks len s = byFw s ts.length cs
  | [], _, _, _, h, _, _, _, _, _ => absurd rfl h
  | [c], s, ts, r, _, hnd, hlt, m, h, hr => by
    obtain ⟨_, _, rfl, t1, m⟩ := Mt_cons m; obtain rfl := Mt_nil m
    simp only [List.cons_append, List.nil_append] at h
    have hnot : c ∉ s.by' := by rw [List.nodup_append] at hnd; intro hc; exact hnd.2.2 c hc c (by simp) rfl
    have hs := by_step len h (hlt c (by simp)) t1.1 hnot
    have hA : At toks (byFw s 1 [c]) r := h.step.same rfl rfl
    rw [Pq.byR_eq, hs, dif_neg (by rw [takes_nothead hA hr]; simp)]
    rfl
  | c :: d :: cs, s, ts, r, _, hnd, hlt, m, h, hr => by
    have m' : Mt (.w (Pq.colTxt c) :: .g [44] :: kJoin ((d :: cs).map (fun c => kCol (c, false)))) ts := m
    clear m
    obtain ⟨_, _, rfl, t1, m1⟩ := Mt_cons m'; obtain ⟨_, _, rfl, t2, m2⟩ := Mt_cons m1
    rename_i ts2
    simp only [List.cons_append] at h
    have hnot : c ∉ s.by' := by rw [List.nodup_append] at hnd; intro hc; exact hnd.2.2 c hc c (by simp) rfl
    have hs := by_step len h (hlt c (by simp)) t1.1 hnot
    have hA : At toks (byFw s 1 [c]) _ := h.step.same rfl rfl
    have hA2 : At toks (byFw s 1 [c]).step (ts2 ++ r) := hA.step
    have ih := by_ok len (d :: cs) (byFw s 1 [c]).step ts2 r (by simp) (by simpa [byFw, Pq.PS.step] using hnd) (fun x hx => hlt x (by simp [hx])) m2 hA2 hr
    rw [Pq.byR_eq, hs, dif_pos (takes_yes hA (w := Pq.wComma) t2.1), ih]
    simp [byFw, Pq.PS.step]; omega
theorem key_step {toks : List Tok} {s : PS} {ts r : List Tok} {c : Nat × Bool} (len : Nat) (m : Mt (kCol c) ts) (h : At toks s (ts ++ r)) (hc : c.1 < 3) (hn : c.1 ∉ s.keys.map Prod.fst) (hr : NotHead Pq.wDesc r) : Pq.keyStep toks len s = keyFw s ts.length [c] := by
  obtain ⟨c, d⟩ := c
  have hno : Pq.hasK s.keys c = false := by
    unfold Pq.hasK; rw [Bool.eq_false_iff]; intro ha
    rw [List.any_eq_true] at ha
    obtain ⟨x, hx, e⟩ := ha
    exact hn (List.mem_map.2 ⟨x, hx, by simpa using e⟩)
  cases d with
  | false =>
    obtain ⟨_, _, rfl, t1, m⟩ := Mt_cons m; obtain rfl := Mt_nil m
    simp only [List.cons_append, List.nil_append] at h
    obtain ⟨e1, e2⟩ := col_ok h hc t1.1
    have hd := takes_nothead h.step hr
    unfold Pq.keyStep Pq.keyMark Pq.keySt Pq.keyDesc Pq.colAt
    rw [e1, hno, e2, hd, Pq.takeS, hd]; rfl
  | true =>
    obtain ⟨_, _, rfl, t1, m⟩ := Mt_cons m; obtain ⟨_, _, rfl, t2, m⟩ := Mt_cons m; obtain rfl := Mt_nil m
    simp only [List.cons_append, List.nil_append] at h
    obtain ⟨e1, e2⟩ := col_ok h hc t1.1
    have hd := takes_yes h.step (w := Pq.wDesc) t2.1
    unfold Pq.keyStep Pq.keyMark Pq.keySt Pq.keyDesc Pq.colAt
    rw [e1, hno, e2, hd, Pq.takeS, hd]; rfl
theorem key_ok {toks : List Tok} (len : Nat) : ∀ (cs : List (Nat × Bool)) (s : PS) (ts r : List Tok), cs ≠ [] → ((s.keys ++ cs).map Prod.fst).Nodup → (∀ c ∈ cs, c.1 < 3) → Mt (kJoin (cs.map kCol)) ts → At toks s (ts ++ r) → NotHead Pq.wComma r → NotHead Pq.wDesc r → Pq.keyR toks len s = keyFw s ts.length cs
  | [], _, _, _, h, _, _, _, _, _, _ => absurd rfl h
  | [c], s, ts, r, _, hnd, hlt, m, h, hr, hr2 => by
    have hnot : c.1 ∉ s.keys.map Prod.fst := by
      rw [List.map_append, List.nodup_append] at hnd; intro hc; exact hnd.2.2 c.1 hc c.1 (by simp) rfl
    have hs := key_step len (show Mt (kCol c) ts from m) h (hlt c (by simp)) hnot hr2
    have hA : At toks (keyFw s ts.length [c]) r := (At.fw h).same rfl rfl
    rw [Pq.keyR_eq, hs, dif_neg (by rw [takes_nothead hA hr]; simp)]
  | c :: d :: cs, s, ts, r, _, hnd, hlt, m, h, hr, hr2 => by
    have m' : Mt (kCol c ++ (.g [44] :: kJoin ((d :: cs).map kCol))) ts := m
    obtain ⟨ta, tb, rfl, ma, mb⟩ := m'.split
    clear m m'
    obtain ⟨_, _, rfl, t2, m2⟩ := Mt_cons mb
    rename_i tcm ts2
    have h1 : At toks s (ta ++ (tcm :: (ts2 ++ r))) := by simpa using h
    have hnot : c.1 ∉ s.keys.map Prod.fst := by
      rw [List.map_append, List.nodup_append] at hnd; intro hc; exact hnd.2.2 c.1 hc c.1 (by simp) rfl
    have hs := key_step len ma h1 (hlt c (by simp)) hnot (fun t r' e => by injection e with e1 e2; subst e1; rw [show _ = _ from t2.1]; decide)
    have hA : At toks (keyFw s ta.length [c]) (tcm :: (ts2 ++ r)) := (At.fw h1).same rfl rfl
    have hA2 : At toks (keyFw s ta.length [c]).step (ts2 ++ r) := hA.step
    have ih := key_ok len (d :: cs) (keyFw s ta.length [c]).step ts2 r (by simp) (by simpa [keyFw, Pq.PS.step] using hnd) (fun x hx => hlt x (by simp [hx])) m2 hA2 hr hr2
    rw [Pq.keyR_eq, hs, dif_pos (takes_yes hA (w := Pq.wComma) t2.1), ih]
    simp [keyFw, Pq.PS.step]; omega
theorem fun_step {toks : List Tok} {s : PS} {ts r : List Tok} {f : Pq.Fn} (len : Nat) (hf : GoodFn f) (m : Mt (kFn f) ts) (h : At toks s (ts ++ r)) (hl : s.funcs.length < 4) : Pq.funStep toks len s = funFw s ts.length [f] := by
  have hm : Pq.funMark toks len s = s := by unfold Pq.funMark; rw [if_neg (by omega)]
  have := fn_ok len hf m h
  unfold Pq.funStep
  rw [hm, this]; rfl
theorem fun_ok {toks : List Tok} (len : Nat) : ∀ (fs : List Pq.Fn) (s : PS) (ts r : List Tok), fs ≠ [] → s.funcs.length + fs.length ≤ 4 → (∀ f ∈ fs, GoodFn f) → Mt (kJoin (fs.map kFn)) ts → At toks s (ts ++ r) → NotHead Pq.wComma r → Pq.funR toks len s = funFw s ts.length fs
  | [], _, _, _, h, _, _, _, _, _ => absurd rfl h
  | [f], s, ts, r, _, hl, hg, m, h, hr => by
    have hs := fun_step len (hg f (by simp)) (show Mt (kFn f) ts from m) h (by simp at hl; omega)
    have hA : At toks (funFw s ts.length [f]) r := (At.fw h).same rfl rfl
    rw [Pq.funR_eq, hs, dif_neg (by rw [takes_nothead hA hr]; simp)]
  | f :: g :: fs, s, ts, r, _, hl, hg, m, h, hr => by
    have m' : Mt (kFn f ++ (.g [44] :: kJoin ((g :: fs).map kFn))) ts := m
    obtain ⟨ta, tb, rfl, ma, mb⟩ := m'.split
    clear m m'
    obtain ⟨_, _, rfl, t2, m2⟩ := Mt_cons mb
    rename_i tcm ts2
    have h1 : At toks s (ta ++ (tcm :: (ts2 ++ r))) := by simpa using h
    have hs := fun_step len (hg f (by simp)) ma h1 (by simp at hl; omega)
    have hA : At toks (funFw s ta.length [f]) (tcm :: (ts2 ++ r)) := (At.fw h1).same rfl rfl
    have hA2 : At toks (funFw s ta.length [f]).step (ts2 ++ r) := hA.step
    have ih := fun_ok len (g :: fs) (funFw s ta.length [f]).step ts2 r (by simp) (by simp [funFw, Pq.PS.step] at hl ⊢; omega) (fun x hx => hg x (by simp [hx])) m2 hA2 hr
    rw [Pq.funR_eq, hs, dif_pos (takes_yes hA (w := Pq.wComma) t2.1), ih]
    simp [funFw, Pq.PS.step]; omega
end Pk
end Go.Proofs.YtcoofnhdbejnpaaDoor
