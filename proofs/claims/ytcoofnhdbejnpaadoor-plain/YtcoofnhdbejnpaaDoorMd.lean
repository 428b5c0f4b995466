/- Plain mathematics: what is written so falls into its tokens again. -/
import Derived.Test.YtcoofnhdbejnpaaDoorMc
namespace Go.Proofs.YtcoofnhdbejnpaaDoor
namespace Pk
open Pq (Bytes)
def Kd.isSign : Kd → Bool
  | ⟨.inr (.inl t)⟩ => match t with | [c] => Pq.isSgn c | _ => false
  | _ => false
def Kd.apart : Kd → Prop
  | ⟨.inl _⟩ => True
  | ⟨.inr (.inl t)⟩ => (Kd.g t).isSign = true
  | ⟨.inr (.inr (_, b))⟩ => b = true
def Kd.Ok : Kd → Prop
  | ⟨.inl t⟩ => Pq.Tk t
  | ⟨.inr (.inl t)⟩ => Pq.Tk t
  | ⟨.inr (.inr (k, _))⟩ => k < 100
/-- no two tokens run into each other -/
def Adj (ps : Bool) : List Kd → Prop
  | [] => True
  | k :: r => (ps = true ∨ k.apart) ∧ k.Ok ∧ Adj k.isSign r
theorem numTxt_dig (k : Nat) (h : k < 100) : Pq.numTxt k ≠ [] ∧ (Pq.numTxt (k : Int)).length ≤ 2 ∧ ∀ c ∈ Pq.numTxt k, Pq.isDig c = true := by
  have hall : ∀ k : Fin 100, Pq.numTxt (k.val : Int) ≠ [] ∧ (Pq.numTxt (k.val : Int)).length ≤ 2 ∧ ∀ c ∈ Pq.numTxt (k.val : Int), Pq.isDig c = true := by decide +kernel
  exact hall ⟨k, h⟩
theorem text_tk {k : Kd} {t : Bytes} (hk : k.Ok) (ht : k.Text t) : Pq.Tk t := by
  induction k using Kd_ind with
  | w x => rw [show t = x from ht]; exact hk
  | g x => rw [show t = x from ht]; exact hk
  | n k b =>
    obtain ⟨h0, h2, hd⟩ := numTxt_dig k hk
    rcases ht with rfl | ⟨h10, rfl⟩
    · exact .digits _ h0 h2 hd
    · refine .digits _ (by simp) ?_ ?_
      · have := numTxt_small h10; simp [this]
      · intro c hc
        rcases List.mem_cons.1 hc with rfl | hc
        · decide
        · exact hd c hc
theorem ptext_ne {k : Kd} (hk : k.Ok) : k.ptext ≠ [] := by
  induction k using Kd_ind with
  | w x => obtain ⟨a, t', e, _⟩ := Pq.tk_blk (show Pq.Tk x from hk); simp [Kd.ptext, e]
  | g x => obtain ⟨a, t', e, _⟩ := Pq.tk_blk (show Pq.Tk x from hk); simp [Kd.ptext, e]
  | n k b => exact (numTxt_dig k hk).1
theorem isSign_g {t : Bytes} (h : (Kd.g t).isSign = true) : ∃ c, t = [c] ∧ Pq.isSgn c = true := by
  match t, h with
  | [c], h => exact ⟨c, rfl, h⟩
  | [], h => simp [Kd.isSign] at h
  | _ :: _ :: _, h => simp [Kd.isSign] at h
theorem Em.wrote {ks : List Kd} {x y : TS} {I : List (Bytes × Bytes)} (h : Em ks x I y) : ∀ ps, Adj ps ks → Pq.Wrote I ∧ (x.plain ≠ [] → ps = false → ∀ c r, Pq.flat I = c :: r → Pq.isOther c) := by
  induction ks, x, I, y, h using Em_ind with
  | nil hr hp => exact fun ps _ => ⟨trivial, fun _ _ c r e => by cases e⟩
  | @cons k ks x y z s t I hs ht hr hp _ ih =>
    intro ps ha
    obtain ⟨h1, h2, h3⟩ := ha
    obtain ⟨w1, w2⟩ := ih _ h3
    have hblk : ∀ c ∈ s, Pq.isBlk c = true := by induction k using Kd_ind with | w => exact hs.2 | g => exact hs | n => exact hs.2
    have htk := text_tk h2 ht
    have hyne : y.plain ≠ [] := by rw [hp]; have := ptext_ne h2; simp [this]
    refine ⟨⟨hblk, htk, ?_, w1⟩, ?_⟩
    · by_cases hsg : k.isSign = true
      · left
        induction k using Kd_ind with
        | w x => simp [Kd.isSign] at hsg
        | n a b => simp [Kd.isSign] at hsg
        | g x =>
          rw [show t = x from ht]
          exact isSign_g hsg
      · right
        exact w2 hyne (by simpa using hsg)
    · intro hx hps c r e
      simp only [Pq.flat] at e
      cases s with
      | cons a s' =>
        simp at e
        rw [← e.1]
        exact Pq.blk_other (hblk a (by simp))
      | nil =>
        have hap : k.apart := by rcases h1 with h1 | h1 <;> simp_all
        have hem : x.plain.isEmpty = false := by cases hxx : x.plain with | nil => exact absurd hxx hx | cons => rfl
        induction k using Kd_ind with
        | w u => rcases hs.1 with h | h
                 · rw [hem] at h; cases h
                 · exact absurd rfl h
        | n u b => exact absurd rfl (hs.1 hap)
        | g u =>
          have hu : t = u := ht
          subst hu
          have hsg : (Kd.g t).isSign = true := hap
          obtain ⟨d, hd, hs'⟩ := isSign_g hsg
          rw [hd] at e
          simp at e
          rw [← e.1]; exact Pq.sgn_other hs'
/-- a token that stands for k -/
def TokK (k : Kd) (t : Pq.Tok) : Prop := k.Text t.text ∧ t.num = Pq.headDig t.text
def Mt : List Kd → List Pq.Tok → Prop
  | [], [] => True
  | k :: ks, t :: ts => TokK k t ∧ Mt ks ts
  | _, _ => False
theorem Mt.nil : Mt [] [] := trivial
theorem Mt.cons {k : Kd} {ks : List Kd} {t : Pq.Tok} {ts : List Pq.Tok} (h : TokK k t) (hs : Mt ks ts) : Mt (k :: ks) (t :: ts) := ⟨h, hs⟩
theorem Mt_nil {ts : List Pq.Tok} (h : Mt [] ts) : ts = [] := by
  cases ts with
  | nil => rfl
  | cons t ts => exact absurd h (fun q => q)
theorem Mt_cons {k : Kd} {ks : List Kd} {ts : List Pq.Tok} (h : Mt (k :: ks) ts) : ∃ t ts', ts = t :: ts' ∧ TokK k t ∧ Mt ks ts' := by
  cases ts with
  | nil => exact absurd h (fun q => q)
  | cons t ts => exact ⟨t, ts, rfl, h.1, h.2⟩
theorem Em.mt {ks : List Kd} {x y : TS} {I : List (Bytes × Bytes)} (h : Em ks x I y) : ∀ ts : List Pq.Tok, ts.map (fun t => (t.text, t.num)) = I.map (fun i => (i.2, Pq.headDig i.2)) → Mt ks ts := by
  induction ks, x, I, y, h using Em_ind with
  | nil hr hp => intro ts e; simp at e; subst e; exact .nil
  | cons hs ht hr hp _ ih =>
    intro ts e
    cases ts with
    | nil => simp at e
    | cons a ts =>
      simp only [List.map_cons, List.cons.injEq, Prod.mk.injEq] at e
      exact .cons ⟨by rw [e.1.1]; exact ht, by rw [e.1.2, e.1.1]⟩ (ih ts e.2)
/-- a text that was written token by token, read -/
theorem read_toks {ks : List Kd} {y : TS} (h : Wr ks ⟨0, [], []⟩ y) (ha : Adj true ks) : (Pq.lexFrom y.raw 0).2 = -1 ∧ Mt ks (Pq.toksOf y.raw) := by
  obtain ⟨I, h⟩ := h
  have hw := (h.wrote true ha).1
  have hr : y.raw = Pq.flat I := by have := h.raw; simpa using this
  have hl := Pq.lex_flat I [] hw
  simp only [List.nil_append, List.length_nil] at hl
  rw [hr]
  exact ⟨hl.1, h.mt _ hl.2⟩
end Pk
end Go.Proofs.YtcoofnhdbejnpaaDoor
