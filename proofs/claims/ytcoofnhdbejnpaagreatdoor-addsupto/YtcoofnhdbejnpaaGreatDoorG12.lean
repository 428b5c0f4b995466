/- Plain mathematics: a query's text with number behind it, and with top; how many FUNCs a text shows. -/
import Derived.Test.YtcoofnhdbejnpaaGreatDoorG06
import Derived.Test.YtcoofnhdbejnpaaGreatDoorG11
namespace Go.Proofs.YtcoofnhdbejnpaaGreatDoor
namespace Pk
open Pq (Bytes Tok PS)
/-- a row of tokens behind a text -/
def flat (ks : List Kd) : Bytes := ks.flatMap (fun k => k.psep false ++ k.ptext)
theorem plainOf_flat : ∀ (ks : List Kd) {p : Bytes}, p ≠ [] → plainOf p ks = p ++ flat ks
  | [], p, _ => by simp [plainOf, flat]
  | k :: ks, p, hp => by
    have e2 : p.isEmpty = false := by cases p with | nil => exact absurd rfl hp | cons x p => rfl
    rw [plainOf, e2, plainOf_flat ks (p := p ++ k.psep false ++ k.ptext) (by simp [hp])]
    simp [flat]
theorem flat_app (a b : List Kd) : flat (a ++ b) = flat a ++ flat b := by simp [flat]
theorem flat_cons (k : Kd) (b : List Kd) : flat (k :: b) = k.psep false ++ k.ptext ++ flat b := by simp [flat]
/-- no bracket, no comma, no w -/
def plB (l : Bytes) : Bool := l.all (fun c => c != 40 && (c != 41 && (c != 44 && c != 119)))
/-- no bracket, no w -/
def qB (l : Bytes) : Bool := l.all (fun c => c != 40 && (c != 41 && c != 119))
theorem plB_app (a b : Bytes) : plB (a ++ b) = (plB a && plB b) := by simp [plB]
theorem qB_app (a b : Bytes) : qB (a ++ b) = (qB a && qB b) := by simp [qB]
theorem plB_q {l : Bytes} (h : plB l = true) : qB l = true := by
  unfold plB at h
  unfold qB
  rw [List.all_eq_true] at h ⊢
  intro c hc
  have := h c hc
  simp only [Bool.and_eq_true] at this ⊢
  exact ⟨this.1, this.2.1, this.2.2.2⟩
theorem dig_pl {l : Bytes} (h : ∀ c ∈ l, Pq.isDig c = true) : plB l = true := by
  unfold plB
  rw [List.all_eq_true]
  intro c hc
  have h1 := h c hc
  simp only [bne_iff_ne, Bool.and_eq_true]
  refine ⟨fun e => ?_, fun e => ?_, fun e => ?_, fun e => ?_⟩ <;> (rw [e] at h1; revert h1; decide)
theorem num_pl {k : Nat} (h : k < 100) (b : Bool) : plB (flat [.n k b]) = true := by
  have := dig_pl (numTxt_dig k h).2.2
  rw [flat_cons, plB_app, plB_app]
  have e : (Kd.n k b).ptext = Pq.numTxt k := rfl
  rw [e, this]
  cases b <;> rfl
theorem word_pl {t : Bytes} (h : plB t = true) : plB (flat [.w t]) = true := by
  rw [flat_cons, plB_app, plB_app]
  have e : (Kd.w t).ptext = t := rfl
  rw [e, h]
  rfl
theorem cons_pl {k : Kd} {ks : List Kd} (h : plB (flat [k]) = true) (h2 : plB (flat ks) = true) : plB (flat (k :: ks)) = true := by
  have : flat (k :: ks) = flat [k] ++ flat ks := by rw [← flat_app]; rfl
  rw [this, plB_app, h, h2]; rfl
theorem edge_pl (e : Pq.Edge) (h : GoodEdge e) : plB (flat (kEdge e)) = true := by
  have hn : e.num.toNat < 100 := by have := h.num.1; have := h.num.2; omega
  unfold kEdge
  split
  · decide
  · split
    · decide
    · split
      · decide
      · split
        · exact cons_pl (num_pl hn true) (by decide)
        · exact cons_pl (num_pl hn true) (by decide)
theorem frame_pl (f : Pq.Frame) (h : GoodFrame f) : plB (flat (kFrame f)) = true := by
  induction f, h using GoodFrame_ind with
  | all => decide
  | peers => decide
  | near n h =>
    have e : kFrame ⟨2, n, e0, e0⟩ = [.w Pq.wNear, .n n true] := by simp [kFrame]
    rw [e]
    exact cons_pl (by decide) (num_pl h true)
  | between a b ha hb =>
    have e : kFrame ⟨3, 0, a, b⟩ = kEdge a ++ (.w Pq.wTo :: kEdge b) := by simp [kFrame]
    rw [e, flat_app, plB_app, edge_pl a ha, cons_pl (by decide) (edge_pl b hb)]; rfl
/-- what the counter of values does with a byte: how many brackets are open, how many values there are -/
def scanC (st : Int × Int) (c : UInt8) : Int × Int := if c = 40 then (st.1 + 1, st.2) else if c = 41 then (st.1 - 1, st.2) else if c = 44 ∧ st.1 = 0 then (st.1, st.2 + 1) else st
theorem scan_pl : ∀ {l : Bytes} (_ : plB l = true) (st : Int × Int), l.foldl scanC st = st
  | [], _, _ => rfl
  | c :: l, h, st => by
    unfold plB at h
    rw [List.all_cons] at h
    simp only [Bool.and_eq_true, bne_iff_ne] at h
    rw [List.foldl_cons]
    have e : scanC st c = st := by
      unfold scanC
      rw [if_neg h.1.1, if_neg h.1.2.1, if_neg (fun q => h.1.2.2.1 q.1)]
    rw [e]
    exact scan_pl h.2 st
theorem scan_q : ∀ {l : Bytes} (_ : qB l = true) (n : Int), l.foldl scanC (1, n) = (1, n)
  | [], _, _ => rfl
  | c :: l, h, n => by
    unfold qB at h
    rw [List.all_cons] at h
    simp only [Bool.and_eq_true, bne_iff_ne] at h
    rw [List.foldl_cons]
    have e : scanC (1, n) c = (1, n) := by
      unfold scanC
      rw [if_neg h.1.1, if_neg h.1.2.1, if_neg (fun q => by have := q.2; simp at this)]
    rw [e]
    exact scan_q h.2 n
theorem qB_w {l : Bytes} (h : qB l = true) : (119 : UInt8) ∉ l := fun hm => by
  unfold qB at h
  rw [List.all_eq_true] at h
  have := h 119 hm
  revert this
  decide
/-- the text of a FUNC: nothing is counted in it -/
def FnTxt (l : Bytes) : Prop := (∀ n : Int, l.foldl scanC (0, n) = (0, n)) ∧ (119 : UInt8) ∉ l
theorem FnTxt.plain {l : Bytes} (h : plB l = true) : FnTxt l := ⟨fun _ => scan_pl h _, qB_w (plB_q h)⟩
theorem FnTxt.call {a b : Bytes} (ha : plB a = true) (hb : qB b = true) : FnTxt (a ++ 40 :: (b ++ [41])) := by
  refine ⟨fun n => ?_, fun hm => ?_⟩
  · rw [List.foldl_append, scan_pl ha, List.foldl_cons]
    have e : scanC (0, n) 40 = (1, n) := rfl
    rw [e, List.foldl_append, scan_q hb]
    rfl
  · rcases List.mem_append.1 hm with h | h
    · exact qB_w (plB_q ha) h
    · rcases List.mem_cons.1 h with h | h
      · revert h; decide
      · rcases List.mem_append.1 h with h | h
        · exact qB_w hb h
        · revert h; decide
theorem kind_pl (k : Nat) : plB (flat [.w (Pq.kindTxt k)]) = true := by
  refine word_pl ?_
  unfold Pq.kindTxt
  split <;> decide
theorem col_q (c : Nat) : qB (flat [.g (Pq.colTxt c)]) = true := by
  unfold Pq.colTxt
  split <;> decide
theorem fn_txt (f : Pq.Fn) (h : GoodFn f) : FnTxt (flat (kFn f)) := by
  induction f, h using GoodFn_ind with
  | plain k h =>
    have e : kFn ⟨k, 0, 0, Pq.fr0⟩ = [.w (Pq.kindTxt k)] := by unfold kFn; rw [if_pos h]
    rw [e]
    exact FnTxt.plain (kind_pl k)
  | tile n h h0 =>
    have e : kFn ⟨3, 0, n, Pq.fr0⟩ = [.w (Pq.kindTxt 3), .g [40], .n n false, .g [41]] := by simp [kFn]
    have e2 : flat [.w (Pq.kindTxt 3), .g [40], .n n false, .g [41]] = flat [.w (Pq.kindTxt 3)] ++ 40 :: (flat [.n n false] ++ [41]) := by simp [flat, Kd.psep, Kd.ptext]
    rw [e, e2]
    exact FnTxt.call (kind_pl 3) (plB_q (num_pl h false))
  | lag k c n hk hc h =>
    have e : kFn ⟨k, c, n, Pq.fr0⟩ = [.w (Pq.kindTxt k), .g [40], .g (Pq.colTxt c), .g [44], .n n true, .g [41]] := by
      rcases hk with rfl | rfl <;> simp [kFn]
    have e2 : flat [.w (Pq.kindTxt k), .g [40], .g (Pq.colTxt c), .g [44], .n n true, .g [41]] = flat [.w (Pq.kindTxt k)] ++ 40 :: ((flat [.g (Pq.colTxt c)] ++ ([44] ++ flat [.n n true])) ++ [41]) := by simp [flat, Kd.psep, Kd.ptext]
    rw [e, e2]
    refine FnTxt.call (kind_pl k) ?_
    rw [qB_app, qB_app, col_q, plB_q (num_pl h true)]
    decide
  | over k c f h6 hk hc hf =>
    have e : kFn ⟨k, c, 0, f⟩ = [.w (Pq.kindTxt k), .g [40], .g (Pq.colTxt c), .g [44]] ++ kFrame f ++ [.g [41]] := by
      unfold kFn
      rw [if_neg (by simp only []; omega), if_neg (by simp only []; omega), if_neg (by simp only []; omega)]
    have e2 : flat ([.w (Pq.kindTxt k), .g [40], .g (Pq.colTxt c), .g [44]] ++ kFrame f ++ [.g [41]]) = flat [.w (Pq.kindTxt k)] ++ 40 :: ((flat [.g (Pq.colTxt c)] ++ ([44] ++ flat (kFrame f))) ++ [41]) := by
      rw [flat_app, flat_app]
      simp [flat, Kd.psep, Kd.ptext]
    rw [e, e2]
    refine FnTxt.call (kind_pl k) ?_
    rw [qB_app, qB_app, col_q, plB_q (frame_pl f hf)]
    decide
theorem funs_txt : ∀ (fs : List Pq.Fn), fs ≠ [] → (∀ f ∈ fs, GoodFn f) → (∀ n : Int, (flat (kJoin (fs.map kFn))).foldl scanC (0, n) = (0, n + fs.length - 1)) ∧ (119 : UInt8) ∉ flat (kJoin (fs.map kFn))
  | [], h, _ => absurd rfl h
  | [f], _, h => by
    have := fn_txt f (h f (by simp))
    refine ⟨fun n => ?_, this.2⟩
    show (flat (kFn f)).foldl scanC (0, n) = _
    rw [this.1 n]
    simp
  | f :: g :: r, _, h => by
    have h1 := fn_txt f (h f (by simp))
    have ih := funs_txt (g :: r) (by simp) (fun x hx => h x (by simp at hx ⊢; right; exact hx))
    have e : kJoin ((f :: g :: r).map kFn) = kFn f ++ (.g [44] :: kJoin ((g :: r).map kFn)) := rfl
    have e2 : flat (.g [44] :: kJoin ((g :: r).map kFn)) = 44 :: flat (kJoin ((g :: r).map kFn)) := by rw [flat_cons]; rfl
    rw [e, flat_app, e2]
    refine ⟨fun n => ?_, fun hm => ?_⟩
    · rw [List.foldl_append, h1.1 n, List.foldl_cons]
      have e3 : scanC (0, n) 44 = (0, n + 1) := rfl
      rw [e3, ih.1 (n + 1)]
      simp
      omega
    · rcases List.mem_append.1 hm with q | q
      · exact h1.2 q
      · rcases List.mem_cons.1 q with q | q
        · revert q; decide
        · exact ih.2 q
end Pk
end Go.Proofs.YtcoofnhdbejnpaaGreatDoor

/- Plain mathematics: how many FUNCs a text shows, with top or without it. -/
namespace Go.Proofs.YtcoofnhdbejnpaaGreatDoor
namespace Pk
open Pq (Bytes Tok PS)
theorem top_pl {q : Ast} (hq : GoodAst q) (full : Bool) : plB (flat (kTop q.top full)) = true := by
  cases ht : q.top with
  | none => rfl
  | some x =>
    obtain ⟨a, b⟩ := x
    obtain ⟨ha, hb⟩ := hq.top a b ht
    cases full
    · exact cons_pl (by decide) (num_pl ha true)
    · exact cons_pl (by decide) (cons_pl (num_pl ha true) (cons_pl (by decide) (num_pl hb true)))
/-- the text of a query, at its show -/
theorem show_any {q : Ast} (hq : GoodAst q) (full : Bool) : ∃ pre post : Bytes, plainOf [] (kQuery q full) = pre ++ ([115, 104, 111, 119] ++ post) ∧ (119 : UInt8) ∉ post ∧ post.foldl scanC (0, 1) = (0, (q.funcs.length : Int)) := by
  have hk : kQuery q full = (kBy q.by' ++ (.w Pq.wOrder :: kJoin (q.keys.map kCol))) ++ (.w Pq.wShow :: (kJoin (q.funcs.map kFn) ++ kTop q.top full)) := by
    unfold kQuery
    simp
  obtain ⟨h1, h2⟩ := funs_txt q.funcs hq.fne hq.fg
  have hp := top_pl hq full
  have hne : plainOf [] (kBy q.by' ++ (.w Pq.wOrder :: kJoin (q.keys.map kCol))) ≠ [] := by
    rw [plainOf_app, plainOf]
    refine pl_ne ?_ _
    simp [Kd.ptext, Pq.wOrder]
  refine ⟨plainOf [] (kBy q.by' ++ (.w Pq.wOrder :: kJoin (q.keys.map kCol))) ++ [32], flat (kJoin (q.funcs.map kFn)) ++ flat (kTop q.top full), ?_, fun hm => ?_, ?_⟩
  · rw [hk, plainOf_app, plainOf_flat _ hne, flat_cons, flat_app]
    simp [Kd.psep, Kd.ptext, Pq.wShow]
  · rcases List.mem_append.1 hm with h | h
    · exact h2 h
    · exact qB_w (plB_q hp) h
  · rw [List.foldl_append, h1 1, scan_pl hp]
    have : (1 : Int) + q.funcs.length - 1 = q.funcs.length := by omega
    rw [this]
end Pk
end Go.Proofs.YtcoofnhdbejnpaaGreatDoor

