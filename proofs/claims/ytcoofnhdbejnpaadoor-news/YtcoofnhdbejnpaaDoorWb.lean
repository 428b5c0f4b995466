/- Package panesref: find, Tokens. -/
import Derived.Test.YtcoofnhdbejnpaaDoorWa
import Derived.Test.YtcoofnhdbejnpaaDoorQe
namespace Go.Proofs.YtcoofnhdbejnpaaDoor
open Go.RowKit
/-- a token's two cells -/
def rtok (t : Pq.Tok) : List Value := [.string ⟨t.text.toArray⟩, .int .i64 (t.at' : Nat)]
def rtoks (ts : List Pq.Tok) : List Value := ts.flatMap rtok
theorem rtoks_snoc (ts : List Pq.Tok) (t : Pq.Tok) : rtoks (ts ++ [t]) = rtoks ts ++ rtok t := by simp [rtoks]
theorem rtoks_len (ts : List Pq.Tok) : (rtoks ts).length = ts.length * 2 := by
  induction ts with
  | nil => rfl
  | cons t ts ih => simp only [rtoks, List.flatMap_cons, List.length_append, List.length_cons] at ih ⊢; rw [ih]; simp [rtok]; omega
theorem rtoks_get : ∀ (ts : List Pq.Tok) (n : Nat) (h : n < ts.length), (rtoks ts)[n * 2]? = some (.string ⟨ts[n].text.toArray⟩) ∧ (rtoks ts)[n * 2 + 1]? = some (.int .i64 (ts[n].at' : Int))
  | [], _, h => by simp at h
  | t :: ts, 0, _ => by simp [rtoks, rtok]
  | t :: ts, n + 1, h => by
    have ih := rtoks_get ts n (by simpa using h)
    have e1 : (n + 1) * 2 = n * 2 + 2 := by omega
    simp only [rtoks, List.flatMap_cons, List.getElem_cons_succ] at ih ⊢
    have e : (rtok t).length = 2 := rfl
    rw [e1, List.getElem?_append_right (by omega), List.getElem?_append_right (by omega), e]
    have a1 : n * 2 + 2 - 2 = n * 2 := by omega
    have a2 : n * 2 + 2 + 1 - 2 = n * 2 + 1 := by omega
    rw [a1, a2]
    exact ih
/-- a list of tokens can be read behind a slice -/
def RdT (w : World) (v : Value) (ts : List Pq.Tok) : Prop :=
  (v = .slice none 0 0 ∧ ts = []) ∨ ∃ g off cap cur, v = .slice (some ⟨g, off, none⟩) ts.length cap ∧ ts.length ≤ cap ∧ w.heap[g]? = some (.cells cur 74 (0, 0)) ∧ ∀ (j : Nat) (u : Value), (rtoks ts)[j]? = some u → cur[off + j]? = some u
theorem RdT.cell {w : World} {g off n cap : Nat} {ts : List Pq.Tok} (h : RdT w (.slice (some ⟨g, off, none⟩) n cap) ts) (j : Nat) (hj : j < ts.length) : w.cell? ⟨g, off + j * 2, none⟩ = some (.string ⟨ts[j].text.toArray⟩) ∧ w.cell? ⟨g, off + j * 2 + 1, none⟩ = some (.int .i64 (ts[j].at' : Int)) := by
  rcases h with ⟨h, _⟩ | ⟨g', off', cap', cur, h, _, hg, hc⟩
  · cases h
  · cases h
    obtain ⟨h1, h2⟩ := rtoks_get ts j hj
    simp only [World.cell?, hg]
    exact ⟨hc _ _ h1, by rw [Nat.add_assoc]; exact hc _ _ h2⟩
theorem RdT.ofOwn {w : World} {B n : Nat} {v : Value} {ts : List Pq.Tok} (h : w.ownsRow B 74 2 v n (rtoks ts)) : RdT w v ts := by
  have hl := h.1
  rw [rtoks_len] at hl
  have hn : ts.length = n := by omega
  subst hn
  rcases h.2 with ⟨h1, h2⟩ | ⟨g, cap, cur, h1, h2, h3, h4, h5, h6, h7⟩
  · exact .inl ⟨h1, List.eq_nil_of_length_eq_zero h2⟩
  · refine .inr ⟨g, 0, cap, cur, h1, h4, h3, fun j u hu => ?_⟩
    rw [← h7] at hu
    rw [List.getElem?_take] at hu
    split at hu
    · simpa using hu
    · cases hu
theorem RdT.below {w w' : World} {v : Value} {ts : List Pq.Tok} (h : RdT w v ts) (hb : Below w.heap.size w w') : RdT w' v ts := by
  rcases h with h | ⟨g, off, cap, cur, h1, h2, h3, h4⟩
  · exact .inl h
  · refine .inr ⟨g, off, cap, cur, h1, h2, ?_, h4⟩
    rw [hb.block g (by rcases Nat.lt_or_ge g w.heap.size with h | h; exact h; rw [Array.getElem?_eq_none h] at h3; cases h3)]
    exact h3
set_option maxHeartbeats 400000 in
theorem find_any {w : World} (t : Pq.Bytes) (ts : List Pq.Tok) (v : Value) (h : RdT w v ts) (hl : ts.length ≤ 1000) :
    Calls Tryd.prog 22 #[v, .string ⟨t.toArray⟩] w fun e w' => e = .returned (.int .i64 (ts.findIdx (fun x => x.text == t) : Nat)) ∧ w = w' := by
  have HR := hide h
  rcases h with ⟨rfl, rfl⟩ | ⟨g, off, cap, cur, rfl, hlc, hg, hc⟩
  · go_enter Tryd.func22, Tryd.ntmps22
    go_wp2
    go_loop [5] (fun i => i = .int .i64 0) (fun i => 0)
    case atStart => rfl
    case round =>
      subst hrel
      go_wp2
      go_ret
      exact ⟨rfl, rfl⟩
  · clear hc
    go_enter Tryd.func22, Tryd.ntmps22
    go_wp2
    go_loop [5] (fun i => ∃ k : Nat, k ≤ ts.length ∧ i = .int .i64 k ∧ Hid (∀ j (hj : j < ts.length), j < k → ts[j].text ≠ t)) (fun i => ts.length - (intOf i).toNat)
    case atStart => exact ⟨0, by omega, rfl, fun j _ hj => by omega⟩
    case round =>
      obtain ⟨k, hk, rfl, HN⟩ := hrel
      by_cases hlt : k < ts.length
      · obtain ⟨c0, c1⟩ := HR.out.cell k hlt
        by_cases he : ts[k].text = t
        · have hb : (ts[k].text == t) = true := by simp [he]
          have HF : Hid (ts.findIdx (fun x => x.text == t) = k) := by
            show _ = _
            rw [List.findIdx_eq hlt]
            exact ⟨hb, fun j hj => by simpa using HN.out j (by omega) hj⟩
          go_wp2
          go_ret
          exact ⟨by rw [HF.out]; rfl, rfl⟩
        · have hb : (ts[k].text == t) = false := by simp [he]
          go_wp2
          go_round
          case rel =>
            refine ⟨k + 1, by omega, by go_num, fun j hj hjk => ?_⟩
            rcases Nat.lt_or_eq_of_le (Nat.le_of_lt_succ hjk) with h | rfl
            · exact HN.out j hj h
            · exact he
          case measure => simp [intOf]; omega
      · have HF : Hid (ts.findIdx (fun x => x.text == t) = ts.length) := by
          show _ = _
          rw [List.findIdx_eq_length]
          intro x hx
          obtain ⟨j, hj, rfl⟩ := List.getElem_of_mem hx
          simpa using HN.out j hj (by omega)
        go_wp2
        go_ret
        exact ⟨by rw [HF.out]; rfl, rfl⟩
end Go.Proofs.YtcoofnhdbejnpaaDoor
