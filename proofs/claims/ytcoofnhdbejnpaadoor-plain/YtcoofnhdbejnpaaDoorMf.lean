/- Plain mathematics: frames and functions, parsed. -/
import Derived.Test.YtcoofnhdbejnpaaDoorMe
namespace Go.Proofs.YtcoofnhdbejnpaaDoor
namespace Pk
open Pq (Bytes Tok PS)
theorem Mt.split {ks ls : List Kd} : ∀ {ts : List Tok}, Mt (ks ++ ls) ts → ∃ t1 t2, ts = t1 ++ t2 ∧ Mt ks t1 ∧ Mt ls t2 := by
  induction ks with
  | nil => intro ts h; exact ⟨[], ts, rfl, .nil, h⟩
  | cons k ks ih =>
    intro ts h
    obtain ⟨_, _, rfl, ht, hm⟩ := Mt_cons h
    ·
      obtain ⟨t1, t2, rfl, h1, h2⟩ := ih hm
      exact ⟨_ :: t1, t2, rfl, .cons ht h1, h2⟩
theorem edge_head {e : Pq.Edge} {ts : List Tok} (he : GoodEdge e) (m : Mt (kEdge e) ts) : ∃ t ts', ts = t :: ts' ∧ (t.text = Pq.wStart ∨ t.text = Pq.wEnd ∨ t.text = Pq.wHere ∨ Pq.headDig t.text = true) := by
  obtain ⟨k, n⟩ := e
  have hk := he.kind
  obtain ⟨n0, n1⟩ := he.num
  simp only at hk n0 n1
  match k, hk with
  | 0, _ => obtain ⟨_, _, rfl, ht, m⟩ := Mt_cons m; exact ⟨_, _, rfl, .inl ht.1⟩
  | 1, _ => obtain ⟨_, _, rfl, ht, m⟩ := Mt_cons m; exact ⟨_, _, rfl, .inr (.inl ht.1)⟩
  | 2, _ => obtain ⟨_, _, rfl, ht, m⟩ := Mt_cons m; exact ⟨_, _, rfl, .inr (.inr (.inl ht.1))⟩
  | 3, _ =>
    obtain ⟨n, rfl⟩ := Int.eq_ofNat_of_zero_le n0
    obtain ⟨_, _, rfl, ht, m⟩ := Mt_cons m
    have ht' : TokK (.n n true) _ := ht
    exact ⟨_, _, rfl, .inr (.inr (.inr (ht'.2 ▸ (num_tok (by omega) ht').1)))⟩
  | 4, _ =>
    obtain ⟨n, rfl⟩ := Int.eq_ofNat_of_zero_le n0
    obtain ⟨_, _, rfl, ht, m⟩ := Mt_cons m
    have ht' : TokK (.n n true) _ := ht
    exact ⟨_, _, rfl, .inr (.inr (.inr (ht'.2 ▸ (num_tok (by omega) ht').1)))⟩
theorem frame_ok {toks : List Tok} {s : PS} {ts r : List Tok} {f : Pq.Frame} (hf : GoodFrame f) (m : Mt (kFrame f) ts) (h : At toks s (ts ++ r)) : Pq.frameR toks s = (f, fw s ts.length) := by
  induction f, hf using GoodFrame_ind with
  | all =>
    obtain ⟨_, _, rfl, ht, m⟩ := Mt_cons m; obtain rfl := Mt_nil m
    simp only [List.cons_append, List.nil_append] at h
    unfold Pq.frameR; rw [takes_yes h ht.1]; rfl
  | peers =>
    obtain ⟨_, _, rfl, ht, m⟩ := Mt_cons m; obtain rfl := Mt_nil m
    simp only [List.cons_append, List.nil_append] at h
    unfold Pq.frameR
    rw [takes_no h (by rw [show _ = _ from ht.1]; decide), takes_yes h ht.1]; rfl
  | near n hn =>
    obtain ⟨_, _, rfl, ht, m⟩ := Mt_cons m; obtain ⟨_, _, rfl, ht2, m⟩ := Mt_cons m; obtain rfl := Mt_nil m
    simp only [List.cons_append, List.nil_append] at h
    have ht' : TokK (.n n true) _ := ht2
    obtain ⟨e1, e2⟩ := num_yes h.step hn ht'
    unfold Pq.frameR
    rw [takes_no h (by rw [show _ = _ from ht.1]; decide), takes_no h (by rw [show _ = _ from ht.1]; decide), takes_yes h ht.1]
    simp only [Bool.false_eq_true, if_false, if_true, fw_step]
    rw [e1, e2]; rfl
  | between a b ha hb =>
    have m' : Mt (kEdge a ++ (.w Pq.wTo :: kEdge b)) ts := m
    obtain ⟨t1, t2, rfl, m1, m2⟩ := m'.split
    obtain ⟨t, t1', e1, hne⟩ := edge_head ha m1
    obtain ⟨u, t3, rfl, ht, m3⟩ := Mt_cons m2
    ·
      have h1 : At toks s (t1 ++ (u :: (t3 ++ r))) := by simpa using h
      have h0 : At toks s (t :: (t1' ++ (u :: (t3 ++ r)))) := by rw [e1] at h1; exact h1
      have hno : ∀ w, w ≠ Pq.wStart → w ≠ Pq.wEnd → w ≠ Pq.wHere → Pq.headDig w = false → t.text ≠ w := by
        intro w a1 a2 a3 a4 e
        rw [e] at hne
        rcases hne with h | h | h | h
        · exact a1 h
        · exact a2 h
        · exact a3 h
        · rw [a4] at h; cases h
      have hE := edge_ok ha m1 h1
      have h2 := At.fw h1
      have hW := want_yes h2 ht.1
      have hE2 := edge_ok hb m3 h2.step
      unfold Pq.frameR
      rw [takes_no h0 (hno _ (by decide) (by decide) (by decide) (by decide)), takes_no h0 (hno _ (by decide) (by decide) (by decide) (by decide)), takes_no h0 (hno _ (by decide) (by decide) (by decide) (by decide))]
      simp only [Bool.false_eq_true, if_false]
      rw [hE]
      simp only
      rw [hW, hE2]
      simp only [fw_fw, List.length_append, List.length_cons]
      congr 2; omega
theorem oneOf_ok {toks : List Tok} {s : PS} {t : Tok} {r : List Tok} {txt : Nat → Bytes} {n k : Nat} (h : At toks s (t :: r)) (hk : k < n) (ht : t.text = txt k) (hd : ∀ j, j < k → txt k ≠ txt j) : Pq.oneOfV toks txt n s = k ∧ Pq.oneOfS toks txt n s = fw s 1 := by
  have := Pq.firstTake_some (toks := toks) (txt := txt) (n := n) (k := k) (s := s) hk (fun j hj => takes_no h (by rw [ht]; exact hd j hj)) (takes_yes h ht)
  unfold Pq.oneOfV Pq.oneOfS
  rw [this]; exact ⟨rfl, rfl⟩
theorem kind_ne (k j : Nat) (hk : k < 12) (hj : j < k) : Pq.kindTxt k ≠ Pq.kindTxt j := by
  have hall : ∀ k : Fin 12, ∀ j : Fin 12, j.val < k.val → Pq.kindTxt k.val ≠ Pq.kindTxt j.val := by decide +kernel
  exact hall ⟨k, hk⟩ ⟨j, by omega⟩ hj
theorem col_ne (k j : Nat) (hk : k < 3) (hj : j < k) : Pq.colTxt k ≠ Pq.colTxt j := by
  have hall : ∀ k : Fin 3, ∀ j : Fin 3, j.val < k.val → Pq.colTxt k.val ≠ Pq.colTxt j.val := by decide +kernel
  exact hall ⟨k, hk⟩ ⟨j, by omega⟩ hj
theorem kind_ok {toks : List Tok} {s : PS} {t : Tok} {r : List Tok} {k : Nat} (h : At toks s (t :: r)) (hk : k < 12) (ht : t.text = Pq.kindTxt k) : Pq.oneOfV toks Pq.kindTxt 12 s = k ∧ Pq.oneOfS toks Pq.kindTxt 12 s = fw s 1 :=
  oneOf_ok h hk ht (fun j hj => kind_ne k j hk hj)
theorem col_ok {toks : List Tok} {s : PS} {t : Tok} {r : List Tok} {k : Nat} (h : At toks s (t :: r)) (hk : k < 3) (ht : t.text = Pq.colTxt k) : Pq.oneOfV toks Pq.colTxt 3 s = k ∧ Pq.oneOfS toks Pq.colTxt 3 s = fw s 1 :=
  oneOf_ok h hk ht (fun j hj => col_ne k j hk hj)
theorem fn_ok {toks : List Tok} {s : PS} {ts r : List Tok} {f : Pq.Fn} (len : Nat) (hf : GoodFn f) (m : Mt (kFn f) ts) (h : At toks s (ts ++ r)) : Pq.funcR toks len s = (f, fw s ts.length) := by
  induction f, hf using GoodFn_ind with
  | plain k hk =>
    have m' : Mt [.w (Pq.kindTxt k)] ts := by simpa [kFn, hk] using m
    obtain ⟨_, _, rfl, ht, m'⟩ := Mt_cons m'; obtain rfl := Mt_nil m'
    simp only [List.cons_append, List.nil_append] at h
    obtain ⟨e1, e2⟩ := kind_ok h (by omega) ht.1
    unfold Pq.funcR
    rw [e1, e2, if_pos hk]; rfl
  | tile n hn h0 =>
    have m' : Mt [.w (Pq.kindTxt 3), .g [40], .n n false, .g [41]] ts := m
    obtain ⟨_, _, rfl, t1, m'⟩ := Mt_cons m'; obtain ⟨_, _, rfl, t2, m'⟩ := Mt_cons m'; obtain ⟨_, _, rfl, t3, m'⟩ := Mt_cons m'; obtain ⟨_, _, rfl, t4, m'⟩ := Mt_cons m'; obtain rfl := Mt_nil m'
    simp only [List.cons_append, List.nil_append] at h
    obtain ⟨e1, e2⟩ := kind_ok h (by omega) t1.1
    have w1 := want_yes h.step (w := Pq.wOpen) t2.1
    obtain ⟨n1, n2⟩ := num_yes h.step.step hn t3
    have w2 := want_yes h.step.step.step (w := Pq.wClose) t4.1
    have ht : Pq.tileS toks len (fw (fw s 1) 1) = fw (fw (fw s 1) 1) 1 := by
      unfold Pq.tileS; rw [n2, if_neg (by omega), n1]
    unfold Pq.funcR Pq.tileR
    rw [e1, e2, if_neg (by omega), if_pos rfl, w1, n2, ht, w2]
    rfl
  | lag k c n hk hc hn =>
    have m' : Mt [.w (Pq.kindTxt k), .g [40], .g (Pq.colTxt c), .g [44], .n n true, .g [41]] ts := by rcases hk with rfl | rfl <;> exact m
    obtain ⟨_, _, rfl, t1, m'⟩ := Mt_cons m'; obtain ⟨_, _, rfl, t2, m'⟩ := Mt_cons m'; obtain ⟨_, _, rfl, t3, m'⟩ := Mt_cons m'; obtain ⟨_, _, rfl, t4, m'⟩ := Mt_cons m'; obtain ⟨_, _, rfl, t5, m'⟩ := Mt_cons m'; obtain ⟨_, _, rfl, t6, m'⟩ := Mt_cons m'; obtain rfl := Mt_nil m'
    simp only [List.cons_append, List.nil_append] at h
    obtain ⟨e1, e2⟩ := kind_ok h (by omega) t1.1
    have w1 := want_yes h.step (w := Pq.wOpen) t2.1
    obtain ⟨c1, c2⟩ := col_ok h.step.step hc t3.1
    have w2 := want_yes h.step.step.step (w := Pq.wComma) t4.1
    obtain ⟨n1, n2⟩ := num_yes h.step.step.step.step hn t5
    have w3 := want_yes h.step.step.step.step.step (w := Pq.wClose) t6.1
    unfold Pq.funcR Pq.lagR Pq.colComma
    rw [e1, e2, if_neg (by omega), if_neg (by omega), if_pos (by omega), w1, c1, c2, w2, n1, n2, w3]
    rfl
  | over k c f h6 hk hc hf =>
    have m' : Mt ([.w (Pq.kindTxt k), .g [40], .g (Pq.colTxt c), .g [44]] ++ kFrame f ++ [.g [41]]) ts := by
      have : kFn ⟨k, c, 0, f⟩ = [.w (Pq.kindTxt k), .g [40], .g (Pq.colTxt c), .g [44]] ++ kFrame f ++ [.g [41]] := by
        unfold kFn; rw [if_neg (by simp; omega), if_neg (by simp; omega), if_neg (by simp; omega)]
      rw [this] at m; exact m
    obtain ⟨ta, tb, rfl, ma, mb⟩ := m'.split
    obtain ⟨tc, td, rfl, mc, md⟩ := ma.split
    clear m m' ma
    obtain ⟨_, _, rfl, t1, u1⟩ := Mt_cons mc; obtain ⟨_, _, rfl, t2, u2⟩ := Mt_cons u1; obtain ⟨_, _, rfl, t3, u3⟩ := Mt_cons u2; obtain ⟨_, _, rfl, t4, u4⟩ := Mt_cons u3; obtain rfl := Mt_nil u4
    obtain ⟨_, _, rfl, t5, u5⟩ := Mt_cons mb; obtain rfl := Mt_nil u5
    simp only [List.cons_append, List.nil_append, List.append_assoc] at h
    obtain ⟨e1, e2⟩ := kind_ok h hk t1.1
    have w1 := want_yes h.step (w := Pq.wOpen) t2.1
    obtain ⟨c1, c2⟩ := col_ok h.step.step hc t3.1
    have w2 := want_yes h.step.step.step (w := Pq.wComma) t4.1
    have hF := frame_ok hf md h.step.step.step.step
    have w3 := want_yes (At.fw h.step.step.step.step) (w := Pq.wClose) t5.1
    unfold Pq.funcR Pq.overR Pq.colComma
    rw [e1, e2, if_neg (by omega), if_neg (by omega), if_neg (by omega), w1, c1, c2, w2, hF]
    simp only
    rw [w3]
    simp only [fw_fw, List.length_append, List.length_cons, List.length_nil]
    first | done | (congr 2; omega)
end Pk
end Go.Proofs.YtcoofnhdbejnpaaDoor
