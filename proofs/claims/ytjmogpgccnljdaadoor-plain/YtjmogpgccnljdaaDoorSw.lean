/- Plain functions: lists of texts, and the plain form of a query. -/
import Derived.Test.YtjmogpgccnljdaaDoorSv
namespace Go.Proofs.YtjmogpgccnljdaaDoor
namespace Pq
theorem joinTxt_snoc : ∀ (xs : List Bytes) (x : Bytes), joinTxt (xs ++ [x]) = if xs = [] then x else joinTxt xs ++ (44 :: 32 :: x)
  | [], _ => rfl
  | [_], _ => by simp [joinTxt]
  | a :: b :: r, x => by
    have ih := joinTxt_snoc (b :: r) x
    simp only [List.cons_append, joinTxt] at ih ⊢
    rw [ih]; simp
theorem joinTxt_len (xs : List Bytes) (h : ∀ x ∈ xs, x.length ≤ 40) : (joinTxt xs).length ≤ 42 * xs.length := by
  match xs, h with
  | [], _ => simp [joinTxt]
  | [a], h => have := h a (by simp); simp [joinTxt]; omega
  | a :: b :: r, h =>
    have ih := joinTxt_len (b :: r) (fun x hx => h x (by simp [hx]))
    have := h a (by simp)
    simp only [joinTxt, List.length_append, List.length_cons] at ih ⊢; omega
def keyTxt (k : Nat × Bool) : Bytes := if k.2 then colTxt k.1 ++ 32 :: wDesc else colTxt k.1
theorem keyTxt_len (k : Nat × Bool) : (keyTxt k).length ≤ 40 := by
  have := colTxt_len k.1
  unfold keyTxt; split <;> simp [wDesc] <;> omega
def colsTxt (l : List Nat) : Bytes := joinTxt (l.map colTxt)
def keysTxt (l : List (Nat × Bool)) : Bytes := joinTxt (l.map keyTxt)
def fnsTxt (l : List Fn) : Bytes := joinTxt (l.map fnTxt)
theorem colsTxt_len (l : List Nat) : (colsTxt l).length ≤ 42 * l.length := by
  have := joinTxt_len (l.map colTxt) (fun x hx => by obtain ⟨c, _, rfl⟩ := List.mem_map.1 hx; rw [colTxt_len]; omega)
  simpa [colsTxt] using this
theorem keysTxt_len (l : List (Nat × Bool)) : (keysTxt l).length ≤ 42 * l.length := by
  have := joinTxt_len (l.map keyTxt) (fun x hx => by obtain ⟨c, _, rfl⟩ := List.mem_map.1 hx; exact keyTxt_len c)
  simpa [keysTxt] using this
theorem fnsTxt_len (l : List Fn) : (fnsTxt l).length ≤ 42 * l.length := by
  have := joinTxt_len (l.map fnTxt) (fun x hx => by obtain ⟨c, _, rfl⟩ := List.mem_map.1 hx; exact fnTxt_len c)
  simpa [fnsTxt] using this
theorem take_map_snoc {α : Type} (f : α → Bytes) (l : List α) (k : Nat) (h : k < l.length) : joinTxt ((l.take (k + 1)).map f) = if k = 0 then f l[k] else joinTxt ((l.take k).map f) ++ (44 :: 32 :: f l[k]) := by
  rw [List.take_succ_eq_append_getElem h, List.map_append, List.map_cons, List.map_nil, joinTxt_snoc]
  by_cases h0 : k = 0
  · subst h0; simp
  · rw [if_neg h0, if_neg (by
      intro e
      have := congrArg List.length e
      rw [List.length_map, List.length_take, List.length_nil] at this; omega)]
def byTxt (l : List Nat) : Bytes := if l.length = 0 then [] else wBy ++ 32 :: colsTxt l ++ [32]
def topTxt (s : PS) : Bytes := (if s.hasTop then 32 :: wTop ++ 32 :: numTxt s.top else []) ++ (if 0 < s.frm then 32 :: wFrom ++ 32 :: numTxt s.frm else [])
def plainTxt (s : PS) : Bytes := byTxt s.by' ++ (wOrder ++ 32 :: keysTxt s.keys) ++ (32 :: wShow ++ 32 :: fnsTxt s.funcs) ++ topTxt s
end Pq
end Go.Proofs.YtjmogpgccnljdaaDoor
