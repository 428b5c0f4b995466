/- Plain mathematics: the parser over tokens as they are meant. -/
import Derived.Test.YtcoofnhdbejnpaaGreatDoorG01
import Derived.Test.YtcoofnhdbejnpaaGreatDoorG09
namespace Go.Proofs.YtcoofnhdbejnpaaGreatDoor
namespace Pk
open Pq (Bytes Tok PS)
/-- nothing has failed, and these tokens are left -/
def At (toks : List Tok) (s : PS) (r : List Tok) : Prop := s.failed = false ∧ toks.drop s.next = r
theorem At.get {toks : List Tok} {s : PS} {t : Tok} {r : List Tok} (h : At toks s (t :: r)) : toks[s.next]? = some t := by
  have := congrArg (fun l => l[0]?) h.2
  simpa using this
theorem At.get_nil {toks : List Tok} {s : PS} (h : At toks s []) : toks[s.next]? = none := by
  have := congrArg (fun l => l[0]?) h.2
  simpa using this
/-- s, k tokens further -/
def fw (s : PS) (k : Nat) : PS := { s with next := s.next + k }
theorem fw_step (s : PS) : s.step = fw s 1 := rfl
theorem fw_fw (s : PS) (a b : Nat) : fw (fw s a) b = fw s (a + b) := by simp [fw, Nat.add_assoc]
theorem At.fw {toks : List Tok} {s : PS} {ts r : List Tok} (h : At toks s (ts ++ r)) : At toks (fw s ts.length) r := by
  refine ⟨h.1, ?_⟩
  show toks.drop (s.next + ts.length) = r
  rw [← List.drop_drop, h.2]; simp
theorem At.step {toks : List Tok} {s : PS} {t : Tok} {r : List Tok} (h : At toks s (t :: r)) : At toks (Pk.fw s 1) r := At.fw (ts := [t]) h
theorem takes_yes {toks : List Tok} {s : PS} {t : Tok} {r : List Tok} {w : Bytes} (h : At toks s (t :: r)) (e : t.text = w) : Pq.takes toks w s = true := by
  unfold Pq.takes; rw [h.get, h.1]; simp [e]
theorem takes_no {toks : List Tok} {s : PS} {t : Tok} {r : List Tok} {w : Bytes} (h : At toks s (t :: r)) (e : t.text ≠ w) : Pq.takes toks w s = false := by
  unfold Pq.takes; rw [h.get, h.1]; simp [e]
theorem takes_nil {toks : List Tok} {s : PS} {w : Bytes} (h : At toks s []) : Pq.takes toks w s = false := by
  unfold Pq.takes; rw [h.get_nil]; simp
theorem want_yes {toks : List Tok} {s : PS} {t : Tok} {r : List Tok} {w : Bytes} (h : At toks s (t :: r)) (e : t.text = w) : Pq.wantS toks w s = fw s 1 := by
  unfold Pq.wantS; rw [takes_yes h e]; rfl
theorem num_tok {k : Nat} {b : Bool} {t : Tok} (hk : k < 100) (h : TokK (.n k b) t) : t.num = true ∧ Pq.worth t.text = (k : Int) := by
  obtain ⟨ht, hn⟩ := h
  have hall : ∀ k : Fin 100, Pq.headDig (Pq.numTxt (k.val : Int)) = true ∧ Pq.worth (Pq.numTxt (k.val : Int)) = (k.val : Int) ∧ Pq.worth (48 :: Pq.numTxt (k.val : Int)) = (k.val : Int) := by decide +kernel
  have := hall ⟨k, hk⟩
  rcases ht with e | ⟨_, e⟩
  · rw [e] at hn ⊢; exact ⟨hn.trans this.1, this.2.1⟩
  · rw [e] at hn ⊢; exact ⟨hn, this.2.2⟩
theorem num_yes {toks : List Tok} {s : PS} {t : Tok} {r : List Tok} {k : Nat} {b : Bool} (h : At toks s (t :: r)) (hk : k < 100) (ht : TokK (.n k b) t) : Pq.numS toks s = fw s 1 ∧ Pq.numV toks s = (k : Int) := by
  obtain ⟨h1, h2⟩ := num_tok hk ht
  have hi : Pq.isNum toks s = true := by unfold Pq.isNum; rw [h.get, h.1]; simp [h1]
  refine ⟨by unfold Pq.numS; rw [hi]; rfl, ?_⟩
  unfold Pq.numV
  rw [hi, h.get]
  simpa using h2
/-- a number is no word -/
theorem num_ne {k : Nat} {b : Bool} {t : Tok} (hk : k < 100) (h : TokK (.n k b) t) {w : Bytes} (hw : Pq.headDig w = false) : t.text ≠ w := by
  intro e
  have := (num_tok hk h).1
  rw [h.2, e, hw] at this; cases this
theorem edge_ok {toks : List Tok} {s : PS} {ts r : List Tok} {e : Pq.Edge} (he : GoodEdge e) (m : Mt (kEdge e) ts) (h : At toks s (ts ++ r)) : Pq.edgeR toks s = (e, fw s ts.length) := by
  obtain ⟨k, n⟩ := e
  have hk := he.kind
  have hz := he.zero
  obtain ⟨n0, n1⟩ := he.num
  simp only at hk hz n0 n1
  match k, hk with
  | 0, _ =>
    have hn := hz (by omega); subst hn
    obtain ⟨_, _, rfl, ht, m⟩ := Mt_cons m; obtain rfl := Mt_nil m
    have h' := h
    simp only [List.cons_append, List.nil_append] at h'
    unfold Pq.edgeR; rw [takes_yes h' ht.1]; rfl
  | 1, _ =>
    have hn := hz (by omega); subst hn
    obtain ⟨_, _, rfl, ht, m⟩ := Mt_cons m; obtain rfl := Mt_nil m
    simp only [List.cons_append, List.nil_append] at h
    unfold Pq.edgeR
    rw [takes_no h (by rw [show _ = _ from ht.1]; decide), takes_yes h ht.1]; rfl
  | 2, _ =>
    have hn := hz (by omega); subst hn
    obtain ⟨_, _, rfl, ht, m⟩ := Mt_cons m; obtain rfl := Mt_nil m
    simp only [List.cons_append, List.nil_append] at h
    unfold Pq.edgeR
    rw [takes_no h (by rw [show _ = _ from ht.1]; decide), takes_no h (by rw [show _ = _ from ht.1]; decide), takes_yes h ht.1]; rfl
  | 3, _ =>
    obtain ⟨n, rfl⟩ := Int.eq_ofNat_of_zero_le n0
    obtain ⟨_, _, rfl, ht, m⟩ := Mt_cons m; obtain ⟨_, _, rfl, ht2, m⟩ := Mt_cons m; obtain rfl := Mt_nil m
    simp only [List.cons_append, List.nil_append] at h
    have ht' : TokK (.n n true) _ := ht
    obtain ⟨e1, e2⟩ := num_yes h (by omega) ht'
    unfold Pq.edgeR
    rw [takes_no h (num_ne (by omega) ht' (by decide)), takes_no h (num_ne (by omega) ht' (by decide)), takes_no h (num_ne (by omega) ht' (by decide)), e1, e2, takes_yes h.step ht2.1]
    rfl
  | 4, _ =>
    obtain ⟨n, rfl⟩ := Int.eq_ofNat_of_zero_le n0
    obtain ⟨_, _, rfl, ht, m⟩ := Mt_cons m; obtain ⟨_, _, rfl, ht2, m⟩ := Mt_cons m; obtain rfl := Mt_nil m
    simp only [List.cons_append, List.nil_append] at h
    have ht' : TokK (.n n true) _ := ht
    obtain ⟨e1, e2⟩ := num_yes h (by omega) ht'
    unfold Pq.edgeR
    rw [takes_no h (num_ne (by omega) ht' (by decide)), takes_no h (num_ne (by omega) ht' (by decide)), takes_no h (num_ne (by omega) ht' (by decide)), e1, e2, takes_no h.step (by rw [show _ = _ from ht2.1]; decide), want_yes h.step ht2.1]
    rfl
end Pk
end Go.Proofs.YtcoofnhdbejnpaaGreatDoor

/- Plain mathematics: frames and functions, parsed. -/
namespace Go.Proofs.YtcoofnhdbejnpaaGreatDoor
namespace Pk
open Pq (Bytes Tok PS)
theorem Mt.split {ks ls : List Kd} : ∀ {ts : List Tok}, Mt (ks ++ ls) ts → ∃ t1 t2, ts = t1 ++ t2 ∧ Mt ks t1 ∧ Mt ls t2 := by
  induction ks with
  | nil => intro ts h; exact ⟨[], ts, rfl, .nil, h⟩
  | cons k ks ih =>
    intro ts h
    obtain ⟨_, _, rfl, ht, hm⟩ := Mt_cons h
    ·
      obtain ⟨t1, t2, rfl, h1, h2⟩ := ih hm
      exact ⟨_ :: t1, t2, rfl, .cons ht h1, h2⟩
theorem edge_head {e : Pq.Edge} {ts : List Tok} (he : GoodEdge e) (m : Mt (kEdge e) ts) : ∃ t ts', ts = t :: ts' ∧ (t.text = Pq.wStart ∨ t.text = Pq.wEnd ∨ t.text = Pq.wHere ∨ Pq.headDig t.text = true) := by
  obtain ⟨k, n⟩ := e
  have hk := he.kind
  obtain ⟨n0, n1⟩ := he.num
  simp only at hk n0 n1
  match k, hk with
  | 0, _ => obtain ⟨_, _, rfl, ht, m⟩ := Mt_cons m; exact ⟨_, _, rfl, .inl ht.1⟩
  | 1, _ => obtain ⟨_, _, rfl, ht, m⟩ := Mt_cons m; exact ⟨_, _, rfl, .inr (.inl ht.1)⟩
  | 2, _ => obtain ⟨_, _, rfl, ht, m⟩ := Mt_cons m; exact ⟨_, _, rfl, .inr (.inr (.inl ht.1))⟩
  | 3, _ =>
    obtain ⟨n, rfl⟩ := Int.eq_ofNat_of_zero_le n0
    obtain ⟨_, _, rfl, ht, m⟩ := Mt_cons m
    have ht' : TokK (.n n true) _ := ht
    exact ⟨_, _, rfl, .inr (.inr (.inr (ht'.2 ▸ (num_tok (by omega) ht').1)))⟩
  | 4, _ =>
    obtain ⟨n, rfl⟩ := Int.eq_ofNat_of_zero_le n0
    obtain ⟨_, _, rfl, ht, m⟩ := Mt_cons m
    have ht' : TokK (.n n true) _ := ht
    exact ⟨_, _, rfl, .inr (.inr (.inr (ht'.2 ▸ (num_tok (by omega) ht').1)))⟩
theorem frame_ok {toks : List Tok} {s : PS} {ts r : List Tok} {f : Pq.Frame} (hf : GoodFrame f) (m : Mt (kFrame f) ts) (h : At toks s (ts ++ r)) : Pq.frameR toks s = (f, fw s ts.length) := by
  induction f, hf using GoodFrame_ind with
  | all =>
    obtain ⟨_, _, rfl, ht, m⟩ := Mt_cons m; obtain rfl := Mt_nil m
    simp only [List.cons_append, List.nil_append] at h
    unfold Pq.frameR; rw [takes_yes h ht.1]; rfl
  | peers =>
    obtain ⟨_, _, rfl, ht, m⟩ := Mt_cons m; obtain rfl := Mt_nil m
    simp only [List.cons_append, List.nil_append] at h
    unfold Pq.frameR
    rw [takes_no h (by rw [show _ = _ from ht.1]; decide), takes_yes h ht.1]; rfl
  | near n hn =>
    obtain ⟨_, _, rfl, ht, m⟩ := Mt_cons m; obtain ⟨_, _, rfl, ht2, m⟩ := Mt_cons m; obtain rfl := Mt_nil m
    simp only [List.cons_append, List.nil_append] at h
    have ht' : TokK (.n n true) _ := ht2
    obtain ⟨e1, e2⟩ := num_yes h.step hn ht'
    unfold Pq.frameR
    rw [takes_no h (by rw [show _ = _ from ht.1]; decide), takes_no h (by rw [show _ = _ from ht.1]; decide), takes_yes h ht.1]
    simp only [Bool.false_eq_true, if_false, if_true, fw_step]
    rw [e1, e2]; rfl
  | between a b ha hb =>
    have m' : Mt (kEdge a ++ (.w Pq.wTo :: kEdge b)) ts := m
    obtain ⟨t1, t2, rfl, m1, m2⟩ := m'.split
    obtain ⟨t, t1', e1, hne⟩ := edge_head ha m1
    obtain ⟨u, t3, rfl, ht, m3⟩ := Mt_cons m2
    ·
      have h1 : At toks s (t1 ++ (u :: (t3 ++ r))) := by simpa using h
      have h0 : At toks s (t :: (t1' ++ (u :: (t3 ++ r)))) := by rw [e1] at h1; exact h1
      have hno : ∀ w, w ≠ Pq.wStart → w ≠ Pq.wEnd → w ≠ Pq.wHere → Pq.headDig w = false → t.text ≠ w := by
        intro w a1 a2 a3 a4 e
        rw [e] at hne
        rcases hne with h | h | h | h
        · exact a1 h
        · exact a2 h
        · exact a3 h
        · rw [a4] at h; cases h
      have hE := edge_ok ha m1 h1
      have h2 := At.fw h1
      have hW := want_yes h2 ht.1
      have hE2 := edge_ok hb m3 h2.step
      unfold Pq.frameR
      rw [takes_no h0 (hno _ (by decide) (by decide) (by decide) (by decide)), takes_no h0 (hno _ (by decide) (by decide) (by decide) (by decide)), takes_no h0 (hno _ (by decide) (by decide) (by decide) (by decide))]
      simp only [Bool.false_eq_true, if_false]
      rw [hE]
      simp only
      rw [hW, hE2]
      simp only [fw_fw, List.length_append, List.length_cons]
      congr 2; omega
theorem oneOf_ok {toks : List Tok} {s : PS} {t : Tok} {r : List Tok} {txt : Nat → Bytes} {n k : Nat} (h : At toks s (t :: r)) (hk : k < n) (ht : t.text = txt k) (hd : ∀ j, j < k → txt k ≠ txt j) : Pq.oneOfV toks txt n s = k ∧ Pq.oneOfS toks txt n s = fw s 1 := by
  have := Pq.firstTake_some (toks := toks) (txt := txt) (n := n) (k := k) (s := s) hk (fun j hj => takes_no h (by rw [ht]; exact hd j hj)) (takes_yes h ht)
  unfold Pq.oneOfV Pq.oneOfS
  rw [this]; exact ⟨rfl, rfl⟩
theorem kind_ne (k j : Nat) (hk : k < 12) (hj : j < k) : Pq.kindTxt k ≠ Pq.kindTxt j := by
  have hall : ∀ k : Fin 12, ∀ j : Fin 12, j.val < k.val → Pq.kindTxt k.val ≠ Pq.kindTxt j.val := by decide +kernel
  exact hall ⟨k, hk⟩ ⟨j, by omega⟩ hj
theorem col_ne (k j : Nat) (hk : k < 3) (hj : j < k) : Pq.colTxt k ≠ Pq.colTxt j := by
  have hall : ∀ k : Fin 3, ∀ j : Fin 3, j.val < k.val → Pq.colTxt k.val ≠ Pq.colTxt j.val := by decide +kernel
  exact hall ⟨k, hk⟩ ⟨j, by omega⟩ hj
theorem kind_ok {toks : List Tok} {s : PS} {t : Tok} {r : List Tok} {k : Nat} (h : At toks s (t :: r)) (hk : k < 12) (ht : t.text = Pq.kindTxt k) : Pq.oneOfV toks Pq.kindTxt 12 s = k ∧ Pq.oneOfS toks Pq.kindTxt 12 s = fw s 1 :=
  oneOf_ok h hk ht (fun j hj => kind_ne k j hk hj)
theorem col_ok {toks : List Tok} {s : PS} {t : Tok} {r : List Tok} {k : Nat} (h : At toks s (t :: r)) (hk : k < 3) (ht : t.text = Pq.colTxt k) : Pq.oneOfV toks Pq.colTxt 3 s = k ∧ Pq.oneOfS toks Pq.colTxt 3 s = fw s 1 :=
  oneOf_ok h hk ht (fun j hj => col_ne k j hk hj)
theorem fn_ok {toks : List Tok} {s : PS} {ts r : List Tok} {f : Pq.Fn} (len : Nat) (hf : GoodFn f) (m : Mt (kFn f) ts) (h : At toks s (ts ++ r)) : Pq.funcR toks len s = (f, fw s ts.length) := by
  induction f, hf using GoodFn_ind with
  | plain k hk =>
    have m' : Mt [.w (Pq.kindTxt k)] ts := by simpa [kFn, hk] using m
    obtain ⟨_, _, rfl, ht, m'⟩ := Mt_cons m'; obtain rfl := Mt_nil m'
    simp only [List.cons_append, List.nil_append] at h
    obtain ⟨e1, e2⟩ := kind_ok h (by omega) ht.1
    unfold Pq.funcR
    rw [e1, e2, if_pos hk]; rfl
  | tile n hn h0 =>
    have m' : Mt [.w (Pq.kindTxt 3), .g [40], .n n false, .g [41]] ts := m
    obtain ⟨_, _, rfl, t1, m'⟩ := Mt_cons m'; obtain ⟨_, _, rfl, t2, m'⟩ := Mt_cons m'; obtain ⟨_, _, rfl, t3, m'⟩ := Mt_cons m'; obtain ⟨_, _, rfl, t4, m'⟩ := Mt_cons m'; obtain rfl := Mt_nil m'
    simp only [List.cons_append, List.nil_append] at h
    obtain ⟨e1, e2⟩ := kind_ok h (by omega) t1.1
    have w1 := want_yes h.step (w := Pq.wOpen) t2.1
    obtain ⟨n1, n2⟩ := num_yes h.step.step hn t3
    have w2 := want_yes h.step.step.step (w := Pq.wClose) t4.1
    have ht : Pq.tileS toks len (fw (fw s 1) 1) = fw (fw (fw s 1) 1) 1 := by
      unfold Pq.tileS; rw [n2, if_neg (by omega), n1]
    unfold Pq.funcR Pq.tileR
    rw [e1, e2, if_neg (by omega), if_pos rfl, w1, n2, ht, w2]
    rfl
  | lag k c n hk hc hn =>
    have m' : Mt [.w (Pq.kindTxt k), .g [40], .g (Pq.colTxt c), .g [44], .n n true, .g [41]] ts := by rcases hk with rfl | rfl <;> exact m
    obtain ⟨_, _, rfl, t1, m'⟩ := Mt_cons m'; obtain ⟨_, _, rfl, t2, m'⟩ := Mt_cons m'; obtain ⟨_, _, rfl, t3, m'⟩ := Mt_cons m'; obtain ⟨_, _, rfl, t4, m'⟩ := Mt_cons m'; obtain ⟨_, _, rfl, t5, m'⟩ := Mt_cons m'; obtain ⟨_, _, rfl, t6, m'⟩ := Mt_cons m'; obtain rfl := Mt_nil m'
    simp only [List.cons_append, List.nil_append] at h
    obtain ⟨e1, e2⟩ := kind_ok h (by omega) t1.1
    have w1 := want_yes h.step (w := Pq.wOpen) t2.1
    obtain ⟨c1, c2⟩ := col_ok h.step.step hc t3.1
    have w2 := want_yes h.step.step.step (w := Pq.wComma) t4.1
    obtain ⟨n1, n2⟩ := num_yes h.step.step.step.step hn t5
    have w3 := want_yes h.step.step.step.step.step (w := Pq.wClose) t6.1
    unfold Pq.funcR Pq.lagR Pq.colComma
    rw [e1, e2, if_neg (by omega), if_neg (by omega), if_pos (by omega), w1, c1, c2, w2, n1, n2, w3]
    rfl
  | over k c f h6 hk hc hf =>
    have m' : Mt ([.w (Pq.kindTxt k), .g [40], .g (Pq.colTxt c), .g [44]] ++ kFrame f ++ [.g [41]]) ts := by
      have : kFn ⟨k, c, 0, f⟩ = [.w (Pq.kindTxt k), .g [40], .g (Pq.colTxt c), .g [44]] ++ kFrame f ++ [.g [41]] := by
        unfold kFn; rw [if_neg (by simp; omega), if_neg (by simp; omega), if_neg (by simp; omega)]
      rw [this] at m; exact m
    obtain ⟨ta, tb, rfl, ma, mb⟩ := m'.split
    obtain ⟨tc, td, rfl, mc, md⟩ := ma.split
    clear m m' ma
    obtain ⟨_, _, rfl, t1, u1⟩ := Mt_cons mc; obtain ⟨_, _, rfl, t2, u2⟩ := Mt_cons u1; obtain ⟨_, _, rfl, t3, u3⟩ := Mt_cons u2; obtain ⟨_, _, rfl, t4, u4⟩ := Mt_cons u3; obtain rfl := Mt_nil u4
    obtain ⟨_, _, rfl, t5, u5⟩ := Mt_cons mb; obtain rfl := Mt_nil u5
    simp only [List.cons_append, List.nil_append, List.append_assoc] at h
    obtain ⟨e1, e2⟩ := kind_ok h hk t1.1
    have w1 := want_yes h.step (w := Pq.wOpen) t2.1
    obtain ⟨c1, c2⟩ := col_ok h.step.step hc t3.1
    have w2 := want_yes h.step.step.step (w := Pq.wComma) t4.1
    have hF := frame_ok hf md h.step.step.step.step
    have w3 := want_yes (At.fw h.step.step.step.step) (w := Pq.wClose) t5.1
    unfold Pq.funcR Pq.overR Pq.colComma
    rw [e1, e2, if_neg (by omega), if_neg (by omega), if_neg (by omega), w1, c1, c2, w2, hF]
    simp only
    rw [w3]
    simp only [fw_fw, List.length_append, List.length_cons, List.length_nil]
    first | done | (congr 2; omega)
end Pk
end Go.Proofs.YtcoofnhdbejnpaaGreatDoor

/- Plain mathematics: lists, and a whole query, parsed. -/
namespace Go.Proofs.YtcoofnhdbejnpaaGreatDoor
namespace Pk
open Pq (Bytes Tok PS)
def NotHead (w : Bytes) (r : List Tok) : Prop := ∀ t r', r = t :: r' → t.text ≠ w
theorem takes_nothead {toks : List Tok} {s : PS} {r : List Tok} {w : Bytes} (h : At toks s r) (hn : NotHead w r) : Pq.takes toks w s = false := by
  cases r with
  | nil => exact takes_nil h
  | cons t r => exact takes_no h (hn t r rfl)
theorem At.same {toks : List Tok} {s s' : PS} {r : List Tok} (h : At toks s r) (h1 : s'.failed = s.failed) (h2 : s'.next = s.next) : At toks s' r := ⟨h1.trans h.1, by rw [h2]; exact h.2⟩
/-- s, k tokens further, with more columns behind by -/
def byFw (s : PS) (k : Nat) (l : List Nat) : PS := { s with next := s.next + k, by' := s.by' ++ l }
def keyFw (s : PS) (k : Nat) (l : List (Nat × Bool)) : PS := { s with next := s.next + k, keys := s.keys ++ l }
def funFw (s : PS) (k : Nat) (l : List Pq.Fn) : PS := { s with next := s.next + k, funcs := s.funcs ++ l }
theorem by_step {toks : List Tok} {s : PS} {t : Tok} {r : List Tok} {c : Nat} (len : Nat) (h : At toks s (t :: r)) (hc : c < 3) (ht : t.text = Pq.colTxt c) (hn : c ∉ s.by') : Pq.byStep toks len s = byFw s 1 [c] := by
  obtain ⟨e1, e2⟩ := col_ok h hc ht
  have hno : Pq.hasC s.by' c = false := by unfold Pq.hasC; simpa using hn
  unfold Pq.byStep Pq.byMark Pq.colAt
  rw [e1, hno, e2]; rfl
theorem by_ok {toks : List Tok} (len : Nat) : ∀ (cs : List Nat) (s : PS) (ts r : List Tok), cs ≠ [] → (s.by' ++ cs).Nodup → (∀ c ∈ cs, c < 3) → Mt (kJoin (cs.map (fun c => kCol (c, false)))) ts → At toks s (ts ++ r) → NotHead Pq.wComma r → Pq.byR toks len s = byFw s ts.length cs
  | [], _, _, _, h, _, _, _, _, _ => absurd rfl h
  | [c], s, ts, r, _, hnd, hlt, m, h, hr => by
    obtain ⟨_, _, rfl, t1, m⟩ := Mt_cons m; obtain rfl := Mt_nil m
    simp only [List.cons_append, List.nil_append] at h
    have hnot : c ∉ s.by' := by rw [List.nodup_append] at hnd; intro hc; exact hnd.2.2 c hc c (by simp) rfl
    have hs := by_step len h (hlt c (by simp)) t1.1 hnot
    have hA : At toks (byFw s 1 [c]) r := h.step.same rfl rfl
    rw [Pq.byR_eq, hs, dif_neg (by rw [takes_nothead hA hr]; simp)]
    rfl
  | c :: d :: cs, s, ts, r, _, hnd, hlt, m, h, hr => by
    have m' : Mt (.w (Pq.colTxt c) :: .g [44] :: kJoin ((d :: cs).map (fun c => kCol (c, false)))) ts := m
    clear m
    obtain ⟨_, _, rfl, t1, m1⟩ := Mt_cons m'; obtain ⟨_, _, rfl, t2, m2⟩ := Mt_cons m1
    rename_i ts2
    simp only [List.cons_append] at h
    have hnot : c ∉ s.by' := by rw [List.nodup_append] at hnd; intro hc; exact hnd.2.2 c hc c (by simp) rfl
    have hs := by_step len h (hlt c (by simp)) t1.1 hnot
    have hA : At toks (byFw s 1 [c]) _ := h.step.same rfl rfl
    have hA2 : At toks (byFw s 1 [c]).step (ts2 ++ r) := hA.step
    have ih := by_ok len (d :: cs) (byFw s 1 [c]).step ts2 r (by simp) (by simpa [byFw, Pq.PS.step] using hnd) (fun x hx => hlt x (by simp [hx])) m2 hA2 hr
    rw [Pq.byR_eq, hs, dif_pos (takes_yes hA (w := Pq.wComma) t2.1), ih]
    simp [byFw, Pq.PS.step]; omega
theorem key_step {toks : List Tok} {s : PS} {ts r : List Tok} {c : Nat × Bool} (len : Nat) (m : Mt (kCol c) ts) (h : At toks s (ts ++ r)) (hc : c.1 < 3) (hn : c.1 ∉ s.keys.map Prod.fst) (hr : NotHead Pq.wDesc r) : Pq.keyStep toks len s = keyFw s ts.length [c] := by
  obtain ⟨c, d⟩ := c
  have hno : Pq.hasK s.keys c = false := by
    unfold Pq.hasK; rw [Bool.eq_false_iff]; intro ha
    rw [List.any_eq_true] at ha
    obtain ⟨x, hx, e⟩ := ha
    exact hn (List.mem_map.2 ⟨x, hx, by simpa using e⟩)
  cases d with
  | false =>
    obtain ⟨_, _, rfl, t1, m⟩ := Mt_cons m; obtain rfl := Mt_nil m
    simp only [List.cons_append, List.nil_append] at h
    obtain ⟨e1, e2⟩ := col_ok h hc t1.1
    have hd := takes_nothead h.step hr
    unfold Pq.keyStep Pq.keyMark Pq.keySt Pq.keyDesc Pq.colAt
    rw [e1, hno, e2, hd, Pq.takeS, hd]; rfl
  | true =>
    obtain ⟨_, _, rfl, t1, m⟩ := Mt_cons m; obtain ⟨_, _, rfl, t2, m⟩ := Mt_cons m; obtain rfl := Mt_nil m
    simp only [List.cons_append, List.nil_append] at h
    obtain ⟨e1, e2⟩ := col_ok h hc t1.1
    have hd := takes_yes h.step (w := Pq.wDesc) t2.1
    unfold Pq.keyStep Pq.keyMark Pq.keySt Pq.keyDesc Pq.colAt
    rw [e1, hno, e2, hd, Pq.takeS, hd]; rfl
theorem key_ok {toks : List Tok} (len : Nat) : ∀ (cs : List (Nat × Bool)) (s : PS) (ts r : List Tok), cs ≠ [] → ((s.keys ++ cs).map Prod.fst).Nodup → (∀ c ∈ cs, c.1 < 3) → Mt (kJoin (cs.map kCol)) ts → At toks s (ts ++ r) → NotHead Pq.wComma r → NotHead Pq.wDesc r → Pq.keyR toks len s = keyFw s ts.length cs
  | [], _, _, _, h, _, _, _, _, _, _ => absurd rfl h
  | [c], s, ts, r, _, hnd, hlt, m, h, hr, hr2 => by
    have hnot : c.1 ∉ s.keys.map Prod.fst := by
      rw [List.map_append, List.nodup_append] at hnd; intro hc; exact hnd.2.2 c.1 hc c.1 (by simp) rfl
    have hs := key_step len (show Mt (kCol c) ts from m) h (hlt c (by simp)) hnot hr2
    have hA : At toks (keyFw s ts.length [c]) r := (At.fw h).same rfl rfl
    rw [Pq.keyR_eq, hs, dif_neg (by rw [takes_nothead hA hr]; simp)]
  | c :: d :: cs, s, ts, r, _, hnd, hlt, m, h, hr, hr2 => by
    have m' : Mt (kCol c ++ (.g [44] :: kJoin ((d :: cs).map kCol))) ts := m
    obtain ⟨ta, tb, rfl, ma, mb⟩ := m'.split
    clear m m'
    obtain ⟨_, _, rfl, t2, m2⟩ := Mt_cons mb
    rename_i tcm ts2
    have h1 : At toks s (ta ++ (tcm :: (ts2 ++ r))) := by simpa using h
    have hnot : c.1 ∉ s.keys.map Prod.fst := by
      rw [List.map_append, List.nodup_append] at hnd; intro hc; exact hnd.2.2 c.1 hc c.1 (by simp) rfl
    have hs := key_step len ma h1 (hlt c (by simp)) hnot (fun t r' e => by injection e with e1 e2; subst e1; rw [show _ = _ from t2.1]; decide)
    have hA : At toks (keyFw s ta.length [c]) (tcm :: (ts2 ++ r)) := (At.fw h1).same rfl rfl
    have hA2 : At toks (keyFw s ta.length [c]).step (ts2 ++ r) := hA.step
    have ih := key_ok len (d :: cs) (keyFw s ta.length [c]).step ts2 r (by simp) (by simpa [keyFw, Pq.PS.step] using hnd) (fun x hx => hlt x (by simp [hx])) m2 hA2 hr hr2
    rw [Pq.keyR_eq, hs, dif_pos (takes_yes hA (w := Pq.wComma) t2.1), ih]
    simp [keyFw, Pq.PS.step]; omega
theorem fun_step {toks : List Tok} {s : PS} {ts r : List Tok} {f : Pq.Fn} (len : Nat) (hf : GoodFn f) (m : Mt (kFn f) ts) (h : At toks s (ts ++ r)) (hl : s.funcs.length < 4) : Pq.funStep toks len s = funFw s ts.length [f] := by
  have hm : Pq.funMark toks len s = s := by unfold Pq.funMark; rw [if_neg (by omega)]
  have := fn_ok len hf m h
  unfold Pq.funStep
  rw [hm, this]; rfl
theorem fun_ok {toks : List Tok} (len : Nat) : ∀ (fs : List Pq.Fn) (s : PS) (ts r : List Tok), fs ≠ [] → s.funcs.length + fs.length ≤ 4 → (∀ f ∈ fs, GoodFn f) → Mt (kJoin (fs.map kFn)) ts → At toks s (ts ++ r) → NotHead Pq.wComma r → Pq.funR toks len s = funFw s ts.length fs
  | [], _, _, _, h, _, _, _, _, _ => absurd rfl h
  | [f], s, ts, r, _, hl, hg, m, h, hr => by
    have hs := fun_step len (hg f (by simp)) (show Mt (kFn f) ts from m) h (by simp at hl; omega)
    have hA : At toks (funFw s ts.length [f]) r := (At.fw h).same rfl rfl
    rw [Pq.funR_eq, hs, dif_neg (by rw [takes_nothead hA hr]; simp)]
  | f :: g :: fs, s, ts, r, _, hl, hg, m, h, hr => by
    have m' : Mt (kFn f ++ (.g [44] :: kJoin ((g :: fs).map kFn))) ts := m
    obtain ⟨ta, tb, rfl, ma, mb⟩ := m'.split
    clear m m'
    obtain ⟨_, _, rfl, t2, m2⟩ := Mt_cons mb
    rename_i tcm ts2
    have h1 : At toks s (ta ++ (tcm :: (ts2 ++ r))) := by simpa using h
    have hs := fun_step len (hg f (by simp)) ma h1 (by simp at hl; omega)
    have hA : At toks (funFw s ta.length [f]) (tcm :: (ts2 ++ r)) := (At.fw h1).same rfl rfl
    have hA2 : At toks (funFw s ta.length [f]).step (ts2 ++ r) := hA.step
    have ih := fun_ok len (g :: fs) (funFw s ta.length [f]).step ts2 r (by simp) (by simp [funFw, Pq.PS.step] at hl ⊢; omega) (fun x hx => hg x (by simp [hx])) m2 hA2 hr
    rw [Pq.funR_eq, hs, dif_pos (takes_yes hA (w := Pq.wComma) t2.1), ih]
    simp [funFw, Pq.PS.step]; omega
end Pk
end Go.Proofs.YtcoofnhdbejnpaaGreatDoor

/- Plain mathematics: a whole query: its tokens, parsed; that they stand apart. -/
namespace Go.Proofs.YtcoofnhdbejnpaaGreatDoor
namespace Pk
open Pq (Bytes Tok PS)
structure Ast where
  by' : List Nat
  keys : List (Nat × Bool)
  funcs : List Pq.Fn
  top : Option (Nat × Nat)
structure GoodAst (q : Ast) : Prop where
  byN : q.by'.Nodup
  byL : ∀ c ∈ q.by', c < 3
  keys : GoodCols q.keys
  fne : q.funcs ≠ []
  fl : q.funcs.length ≤ 4
  fg : ∀ f ∈ q.funcs, GoodFn f
  top : ∀ a b, q.top = some (a, b) → a < 100 ∧ b < 100
def kTop (t : Option (Nat × Nat)) (full : Bool) : List Kd := match t with
  | none => []
  | some (a, b) => .w Pq.wTop :: .n a true :: (if full then [.w Pq.wFrom, .n b true] else [])
def kBy (l : List Nat) : List Kd := if l = [] then [] else .w Pq.wBy :: kJoin (l.map (fun c => kCol (c, false)))
def kQuery (q : Ast) (full : Bool) : List Kd := kBy q.by' ++ (.w Pq.wOrder :: (kJoin (q.keys.map kCol) ++ (.w Pq.wShow :: (kJoin (q.funcs.map kFn) ++ kTop q.top full))))
/-- what is read -/
def astPS (q : Ast) (n : Nat) (full : Bool) : PS :=
  { next := n, failed := false, by' := q.by', keys := q.keys, funcs := q.funcs, hasTop := q.top.isSome,
    top := (match q.top with | some (a, _) => (a : Int) | none => 0), frm := (match q.top with | some (_, b) => if full then (b : Int) else 0 | none => 0), many := -1, twice := -1, arg := -1 }
theorem nothead_of {w u : Bytes} {t : Tok} {r : List Tok} (h : t.text = u) (hne : u ≠ w) : NotHead w (t :: r) := fun t' r' e => by
  injection e with e1 e2; subst e1; rw [h]; exact hne
theorem q1_ok {toks : List Tok} (len : Nat) {q : Ast} (hq : GoodAst q) {ts r : List Tok} {t : Tok} (m : Mt (kBy q.by') ts) (ht : t.text = Pq.wOrder) (h : At toks Pq.ps0 (ts ++ t :: r)) : Pq.q1 toks len Pq.ps0 = byFw Pq.ps0 ts.length q.by' := by
  unfold kBy at m
  split at m
  · rename_i he
    obtain rfl := Mt_nil m
    unfold Pq.q1
    rw [takes_no h (by rw [ht]; decide)]
    simp [byFw, he, Pq.ps0]
  · rename_i hne
    obtain ⟨_, _, rfl, t1, m1⟩ := Mt_cons m
    simp only [List.cons_append] at h
    unfold Pq.q1
    rw [takes_yes h t1.1, if_pos rfl]
    have := by_ok len q.by' Pq.ps0.step _ _ hne (by simpa [Pq.ps0, Pq.PS.step] using hq.byN) hq.byL m1 h.step (nothead_of ht (by decide))
    rw [this]
    simp [byFw, Pq.ps0, Pq.PS.step, Nat.add_comm]
theorem top_ok {toks : List Tok} {s : PS} {ts : List Tok} {a b : Nat} {full : Bool} (ha : a < 100) (hb : b < 100) (m : Mt (.n a true :: (if full then [.w Pq.wFrom, .n b true] else [])) ts) (h : At toks s ts) :
    Pq.topS toks s = { s with next := s.next + ts.length, hasTop := true, top := (a : Int), frm := if full then (b : Int) else s.frm } := by
  obtain ⟨_, _, rfl, t1, m1⟩ := Mt_cons m
  have h' : At toks { s with hasTop := true } _ := h.same rfl rfl
  obtain ⟨n1, n2⟩ := num_yes h' ha t1
  have e1 : Pq.top1 toks s = { s with next := s.next + 1, hasTop := true, top := (a : Int) } := by unfold Pq.top1; rw [n1, n2]; rfl
  have hA : At toks { s with next := s.next + 1, hasTop := true, top := (a : Int) } _ := h'.step.same rfl rfl
  cases full with
  | false =>
    obtain rfl := Mt_nil m1
    unfold Pq.topS
    rw [e1, takes_nil hA]; rfl
  | true =>
    obtain ⟨_, _, rfl, t2, m2⟩ := Mt_cons m1; obtain ⟨_, _, rfl, t3, m3⟩ := Mt_cons m2; obtain rfl := Mt_nil m3
    unfold Pq.topS
    rw [e1, takes_yes hA (w := Pq.wFrom) t2.1]
    have hB : At toks ({ s with next := s.next + 1, hasTop := true, top := (a : Int) } : PS).step _ := hA.step
    obtain ⟨n3, n4⟩ := num_yes hB hb t3
    rw [n3, n4]
    simp [fw, Pq.PS.step]
theorem At.len {toks : List Tok} {s : PS} {r : List Tok} (h : At toks s r) (hl : s.next ≤ toks.length) : s.next + r.length = toks.length := by
  have := congrArg List.length h.2
  simp at this; omega
theorem query_ok {toks : List Tok} (len : Nat) {q : Ast} (hq : GoodAst q) {full : Bool} (m : Mt (kQuery q full) toks) : Pq.queryS toks len Pq.ps0 = astPS q toks.length full := by
  obtain ⟨ta, tb, e0, ma, mb⟩ := Mt.split (show Mt (kBy q.by' ++ (.w Pq.wOrder :: (kJoin (q.keys.map kCol) ++ (.w Pq.wShow :: (kJoin (q.funcs.map kFn) ++ kTop q.top full))))) toks from m)
  obtain ⟨_, _, rfl, to, mc⟩ := Mt_cons mb
  rename_i tord tc
  obtain ⟨tk, td, e1, mk, md⟩ := Mt.split mc
  obtain ⟨_, _, rfl, tsh, me⟩ := Mt_cons md
  rename_i tshow te
  obtain ⟨tf, tt, e2, mf, mt⟩ := Mt.split me
  subst e1 e2
  have h0 : At toks Pq.ps0 (ta ++ tord :: (tk ++ tshow :: (tf ++ tt))) := ⟨rfl, by simpa [Pq.ps0] using e0⟩
  have hlen : toks.length = ta.length + (1 + (tk.length + (1 + (tf.length + tt.length)))) := by rw [e0]; simp; omega
  have hto : tord.text = Pq.wOrder := to.1
  have hts : tshow.text = Pq.wShow := tsh.1
  have hQ1 := q1_ok len hq ma hto h0
  have h1 : At toks (byFw Pq.ps0 ta.length q.by') (tord :: (tk ++ tshow :: (tf ++ tt))) := (At.fw h0).same rfl rfl
  have hw := want_yes h1 hto
  have h2 := h1.step
  have hQ2 : Pq.q2 toks len Pq.ps0 = keyFw (fw (byFw Pq.ps0 ta.length q.by') 1) tk.length q.keys := by
    unfold Pq.q2
    rw [hQ1, hw]
    exact key_ok len q.keys _ tk _ hq.keys.ne (by simpa [byFw, fw, Pq.ps0] using hq.keys.nodup) hq.keys.lt mk h2 (nothead_of hts (by decide)) (nothead_of hts (by decide))
  have h3 : At toks (keyFw (fw (byFw Pq.ps0 ta.length q.by') 1) tk.length q.keys) (tshow :: (tf ++ tt)) := (At.fw h2).same rfl rfl
  have hw2 := want_yes h3 hts
  have h4 := h3.step
  have hnh : NotHead Pq.wComma tt := by
    unfold kTop at mt
    split at mt
    · obtain rfl := Mt_nil mt; intro t r' e; cases e
    · obtain ⟨_, _, rfl, t1, m1⟩ := Mt_cons mt; exact nothead_of t1.1 (by decide)
  have hQ3 : Pq.q3 toks len Pq.ps0 = funFw (fw (keyFw (fw (byFw Pq.ps0 ta.length q.by') 1) tk.length q.keys) 1) tf.length q.funcs := by
    unfold Pq.q3
    rw [hQ2, hw2]
    exact fun_ok len q.funcs _ tf _ hq.fne (by simpa [byFw, fw, keyFw, Pq.ps0] using hq.fl) hq.fg mf h4 hnh
  have h5 : At toks (funFw (fw (keyFw (fw (byFw Pq.ps0 ta.length q.by') 1) tk.length q.keys) 1) tf.length q.funcs) tt := (At.fw h4).same rfl rfl
  have hend : ∀ s : PS, s.next = toks.length → Pq.endS toks s = s := fun s hs => by unfold Pq.endS; rw [if_neg (by omega)]
  unfold Pq.queryS Pq.q4
  rw [hQ3]
  unfold kTop at mt
  split at mt
  · rename_i ht
    obtain rfl := Mt_nil mt
    rw [takes_nil h5, if_neg (by simp), hend _ (by simp [funFw, fw, keyFw, byFw, Pq.ps0, hlen]; omega)]
    simp [astPS, ht, funFw, fw, keyFw, byFw, Pq.ps0, hlen]; omega
  · rename_i a b ht
    obtain ⟨ha, hb⟩ := hq.top a b ht
    obtain ⟨_, _, rfl, t1, m1⟩ := Mt_cons mt
    rw [takes_yes h5 (w := Pq.wTop) t1.1, if_pos rfl]
    have hT := top_ok ha hb m1 h5.step
    rw [show (funFw (fw (keyFw (fw (byFw Pq.ps0 ta.length q.by') 1) tk.length q.keys) 1) tf.length q.funcs).step = fw (funFw (fw (keyFw (fw (byFw Pq.ps0 ta.length q.by') 1) tk.length q.keys) 1) tf.length q.funcs) 1 from rfl, hT]
    rw [hend _ (by simp [funFw, fw, keyFw, byFw, Pq.ps0, hlen]; omega)]
    simp [astPS, ht, funFw, fw, keyFw, byFw, Pq.ps0, hlen]; omega
end Pk
end Go.Proofs.YtcoofnhdbejnpaaGreatDoor

