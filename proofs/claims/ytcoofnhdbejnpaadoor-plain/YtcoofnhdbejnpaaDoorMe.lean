/- Plain mathematics: the parser over tokens as they are meant. -/
import Derived.Test.YtcoofnhdbejnpaaDoorMd
import Derived.Test.YtcoofnhdbejnpaaDoorPlainA
namespace Go.Proofs.YtcoofnhdbejnpaaDoor
namespace Pk
open Pq (Bytes Tok PS)
/-- nothing has failed, and these tokens are left -/
def At (toks : List Tok) (s : PS) (r : List Tok) : Prop := s.failed = false ∧ toks.drop s.next = r
theorem At.get {toks : List Tok} {s : PS} {t : Tok} {r : List Tok} (h : At toks s (t :: r)) : toks[s.next]? = some t := by
  have := congrArg (fun l => l[0]?) h.2
  simpa using this
theorem At.get_nil {toks : List Tok} {s : PS} (h : At toks s []) : toks[s.next]? = none := by
  have := congrArg (fun l => l[0]?) h.2
  simpa using this
theorem At.lt {toks : List Tok} {s : PS} {t : Tok} {r : List Tok} (h : At toks s (t :: r)) : s.next < toks.length := by
  have := h.get
  exact (List.getElem?_eq_some_iff.1 this).1
/-- s, k tokens further -/
def fw (s : PS) (k : Nat) : PS := { s with next := s.next + k }
theorem fw_zero (s : PS) : fw s 0 = s := rfl
theorem fw_step (s : PS) : s.step = fw s 1 := rfl
theorem fw_fw (s : PS) (a b : Nat) : fw (fw s a) b = fw s (a + b) := by simp [fw, Nat.add_assoc]
theorem At.fw {toks : List Tok} {s : PS} {ts r : List Tok} (h : At toks s (ts ++ r)) : At toks (fw s ts.length) r := by
  refine ⟨h.1, ?_⟩
  show toks.drop (s.next + ts.length) = r
  rw [← List.drop_drop, h.2]; simp
theorem At.step {toks : List Tok} {s : PS} {t : Tok} {r : List Tok} (h : At toks s (t :: r)) : At toks (Pk.fw s 1) r := At.fw (ts := [t]) h
theorem takes_yes {toks : List Tok} {s : PS} {t : Tok} {r : List Tok} {w : Bytes} (h : At toks s (t :: r)) (e : t.text = w) : Pq.takes toks w s = true := by
  unfold Pq.takes; rw [h.get, h.1]; simp [e]
theorem takes_no {toks : List Tok} {s : PS} {t : Tok} {r : List Tok} {w : Bytes} (h : At toks s (t :: r)) (e : t.text ≠ w) : Pq.takes toks w s = false := by
  unfold Pq.takes; rw [h.get, h.1]; simp [e]
theorem takes_nil {toks : List Tok} {s : PS} {w : Bytes} (h : At toks s []) : Pq.takes toks w s = false := by
  unfold Pq.takes; rw [h.get_nil]; simp
theorem want_yes {toks : List Tok} {s : PS} {t : Tok} {r : List Tok} {w : Bytes} (h : At toks s (t :: r)) (e : t.text = w) : Pq.wantS toks w s = fw s 1 := by
  unfold Pq.wantS; rw [takes_yes h e]; rfl
theorem num_tok {k : Nat} {b : Bool} {t : Tok} (hk : k < 100) (h : TokK (.n k b) t) : t.num = true ∧ Pq.worth t.text = (k : Int) := by
  obtain ⟨ht, hn⟩ := h
  have hall : ∀ k : Fin 100, Pq.headDig (Pq.numTxt (k.val : Int)) = true ∧ Pq.worth (Pq.numTxt (k.val : Int)) = (k.val : Int) ∧ Pq.worth (48 :: Pq.numTxt (k.val : Int)) = (k.val : Int) := by decide +kernel
  have := hall ⟨k, hk⟩
  rcases ht with e | ⟨_, e⟩
  · rw [e] at hn ⊢; exact ⟨hn.trans this.1, this.2.1⟩
  · rw [e] at hn ⊢; exact ⟨hn, this.2.2⟩
theorem num_yes {toks : List Tok} {s : PS} {t : Tok} {r : List Tok} {k : Nat} {b : Bool} (h : At toks s (t :: r)) (hk : k < 100) (ht : TokK (.n k b) t) : Pq.numS toks s = fw s 1 ∧ Pq.numV toks s = (k : Int) := by
  obtain ⟨h1, h2⟩ := num_tok hk ht
  have hi : Pq.isNum toks s = true := by unfold Pq.isNum; rw [h.get, h.1]; simp [h1]
  refine ⟨by unfold Pq.numS; rw [hi]; rfl, ?_⟩
  unfold Pq.numV
  rw [hi, h.get]
  simpa using h2
/-- a number is no word -/
theorem num_ne {k : Nat} {b : Bool} {t : Tok} (hk : k < 100) (h : TokK (.n k b) t) {w : Bytes} (hw : Pq.headDig w = false) : t.text ≠ w := by
  intro e
  have := (num_tok hk h).1
  rw [h.2, e, hw] at this; cases this
theorem edge_ok {toks : List Tok} {s : PS} {ts r : List Tok} {e : Pq.Edge} (he : GoodEdge e) (m : Mt (kEdge e) ts) (h : At toks s (ts ++ r)) : Pq.edgeR toks s = (e, fw s ts.length) := by
  obtain ⟨k, n⟩ := e
  have hk := he.kind
  have hz := he.zero
  obtain ⟨n0, n1⟩ := he.num
  simp only at hk hz n0 n1
  match k, hk with
  | 0, _ =>
    have hn := hz (by omega); subst hn
    obtain ⟨_, _, rfl, ht, m⟩ := Mt_cons m; obtain rfl := Mt_nil m
    have h' := h
    simp only [List.cons_append, List.nil_append] at h'
    unfold Pq.edgeR; rw [takes_yes h' ht.1]; rfl
  | 1, _ =>
    have hn := hz (by omega); subst hn
    obtain ⟨_, _, rfl, ht, m⟩ := Mt_cons m; obtain rfl := Mt_nil m
    simp only [List.cons_append, List.nil_append] at h
    unfold Pq.edgeR
    rw [takes_no h (by rw [show _ = _ from ht.1]; decide), takes_yes h ht.1]; rfl
  | 2, _ =>
    have hn := hz (by omega); subst hn
    obtain ⟨_, _, rfl, ht, m⟩ := Mt_cons m; obtain rfl := Mt_nil m
    simp only [List.cons_append, List.nil_append] at h
    unfold Pq.edgeR
    rw [takes_no h (by rw [show _ = _ from ht.1]; decide), takes_no h (by rw [show _ = _ from ht.1]; decide), takes_yes h ht.1]; rfl
  | 3, _ =>
    obtain ⟨n, rfl⟩ := Int.eq_ofNat_of_zero_le n0
    obtain ⟨_, _, rfl, ht, m⟩ := Mt_cons m; obtain ⟨_, _, rfl, ht2, m⟩ := Mt_cons m; obtain rfl := Mt_nil m
    simp only [List.cons_append, List.nil_append] at h
    have ht' : TokK (.n n true) _ := ht
    obtain ⟨e1, e2⟩ := num_yes h (by omega) ht'
    unfold Pq.edgeR
    rw [takes_no h (num_ne (by omega) ht' (by decide)), takes_no h (num_ne (by omega) ht' (by decide)), takes_no h (num_ne (by omega) ht' (by decide)), e1, e2, takes_yes h.step ht2.1]
    rfl
  | 4, _ =>
    obtain ⟨n, rfl⟩ := Int.eq_ofNat_of_zero_le n0
    obtain ⟨_, _, rfl, ht, m⟩ := Mt_cons m; obtain ⟨_, _, rfl, ht2, m⟩ := Mt_cons m; obtain rfl := Mt_nil m
    simp only [List.cons_append, List.nil_append] at h
    have ht' : TokK (.n n true) _ := ht
    obtain ⟨e1, e2⟩ := num_yes h (by omega) ht'
    unfold Pq.edgeR
    rw [takes_no h (num_ne (by omega) ht' (by decide)), takes_no h (num_ne (by omega) ht' (by decide)), takes_no h (num_ne (by omega) ht' (by decide)), e1, e2, takes_no h.step (by rw [show _ = _ from ht2.1]; decide), want_yes h.step ht2.1]
    rfl
end Pk
end Go.Proofs.YtcoofnhdbejnpaaDoor
