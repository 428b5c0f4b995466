/- Package queries: the parser with the three lists that it owns. -/
import Derived.Test.YtcoofnhdbejnpaaDoorQh
import Derived.Test.YtcoofnhdbejnpaaDoorPlainA
namespace Go.Proofs.YtcoofnhdbejnpaaDoor
open Go.RowKit
def colCells (l : List Nat) : List Value := l.map (fun c : Nat => Value.int .i64 (c : Int))
def keyCells (l : List (Nat × Bool)) : List Value := l.flatMap (fun k : Nat × Bool => [Value.int .i64 (k.1 : Int), .bool k.2])
def fnCell (f : Pq.Fn) : List Value := [.int .i64 (f.kind : Int), .int .i64 (f.col : Int), .int .i64 f.num, .int .i64 (f.frame.kind : Int), .int .i64 f.frame.num, .int .i64 (f.frame.frm.kind : Int), .int .i64 f.frame.frm.num, .int .i64 (f.frame.to.kind : Int), .int .i64 f.frame.to.num]
def fnCells (l : List Pq.Fn) : List Value := l.flatMap fnCell
theorem own_block {w : World} {B T n : Nat} {v : Value} {k : Nat} {xs : List Value} (h : w.ownsRow B T n v k xs) {c : Nat} (hc : v.ownBlock = some c) : ∃ cur, w.heap[c]? = some (.cells cur T (0, 0)) ∧ B ≤ c := by
  rcases h.2 with ⟨rfl, _⟩ | ⟨g, cap, cur, rfl, hb, hg, _⟩
  · simp [Value.ownBlock] at hc
  · simp [Value.ownBlock] at hc; subst hc; exact ⟨cur, hg, hb⟩
theorem own_ne {w : World} {B T n : Nat} {v : Value} {k : Nat} {xs : List Value} (h : w.ownsRow B T n v k xs) {c T' : Nat} {cs : Array Value} {fr : Nat × Nat} (hc : w.heap[c]? = some (.cells cs T' fr)) (hT : T ≠ T') : v.ownBlock ≠ some c := by
  intro e
  obtain ⟨cur, hcur, _⟩ := own_block h e
  rw [hc] at hcur
  simp at hcur
  exact hT hcur.2.1.symm
theorem own_sep {w : World} {B T n B' T' n' : Nat} {v v' : Value} {k k' : Nat} {xs xs' : List Value} (h : w.ownsRow B T n v k xs) (h' : w.ownsRow B' T' n' v' k' xs') (hT : T ≠ T') : v.ownBlock = none ∨ v.ownBlock ≠ v'.ownBlock := by
  cases hv : v.ownBlock with
  | none => exact .inl rfl
  | some c =>
    refine .inr fun e => ?_
    obtain ⟨cur, hcur, _⟩ := own_block h hv
    obtain ⟨cur', hcur', _⟩ := own_block h' e.symm
    rw [hcur] at hcur'
    simp at hcur'
    exact hT hcur'.2
theorem own_Gb {w w' : World} {B T n : Nat} {v : Value} {k : Nat} {xs : List Value} (h : w.ownsRow B T n v k xs) {b T' : Nat} {cs : Array Value} {fr : Nat × Nat} (hc : w.heap[b]? = some (.cells cs T' fr)) (hT : T ≠ T') (hg : Gb b w w') : w'.ownsRow B T n v k xs :=
  h.kept hg (.inr (own_ne h hc hT))
structure PAl (w : World) (B b g cap len : Nat) (toks : List Pq.Tok) (vb vk vf : Value) (s : Pq.PS) : Prop where
  pin : PIn w b g cap len toks vb vk vf s
  oby : w.ownsRow B 107 1 vb s.by'.length (colCells s.by')
  okey : w.ownsRow B 109 2 vk s.keys.length (keyCells s.keys)
  ofun : w.ownsRow B 118 9 vf s.funcs.length (fnCells s.funcs)
  lby : s.by'.length ≤ s.next + 1
  lkey : s.keys.length ≤ s.next + 1
  lfun : s.funcs.length ≤ s.next + 1
  hB : B ≤ b
/-- the same lists, another place: behind a step that turns block b alone -/
theorem PAl.moved {w w' : World} {B b g cap len : Nat} {toks : List Pq.Tok} {vb vk vf : Value} {s s' : Pq.PS} (h : PAl w B b g cap len toks vb vk vf s) (hp : PIn w' b g cap len toks vb vk vf s') (hg : Gb b w w')
    (e1 : s'.by' = s.by') (e2 : s'.keys = s.keys) (e3 : s'.funcs = s.funcs) (hn : s.next ≤ s'.next) : PAl w' B b g cap len toks vb vk vf s' := by
  refine ⟨hp, ?_, ?_, ?_, ?_, ?_, ?_, h.hB⟩
  · rw [e1]; exact own_Gb h.oby h.pin.blk (by decide) hg
  · rw [e2]; exact own_Gb h.okey h.pin.blk (by decide) hg
  · rw [e3]; exact own_Gb h.ofun h.pin.blk (by decide) hg
  · rw [e1]; have := h.lby; omega
  · rw [e2]; have := h.lkey; omega
  · rw [e3]; have := h.lfun; omega
theorem Gb.below {b B : Nat} {w w' : World} (h : Gb b w w') (hB : B ≤ b) (hs : b < w.heap.size) : Below B w w' :=
  ⟨h.os, h.tape, h.output, h.size, fun k hk => h.block k (by omega) (by simp; omega)⟩
theorem own_cells {w : World} {B T n : Nat} {g cap k : Nat} {xs : List Value} (h : w.ownsRow B T n (.slice (some ⟨g, 0, none⟩) k cap) k xs) (j : Nat) (u : Value) (hu : xs[j]? = some u) : w.cell? ⟨g, j, none⟩ = some u := by
  have := h.cells (g := g) rfl j u hu
  have hadd : (⟨g, 0, none⟩ : Addr).add j = ⟨g, j, none⟩ := by unfold Addr.add; split <;> simp_all
  rwa [hadd] at this
theorem own_form {w : World} {B T n : Nat} {v : Value} {k : Nat} {xs : List Value} (h : w.ownsRow B T n v k xs) : (v = .slice none 0 0 ∧ k = 0) ∨ ∃ g cap, v = .slice (some ⟨g, 0, none⟩) k cap := by
  rcases h.2 with h' | ⟨g, cap, cur, rfl, _⟩
  · exact .inl h'
  · exact .inr ⟨g, cap, rfl⟩
theorem keyCells_get : ∀ (l : List (Nat × Bool)) (n : Nat) (h : n < l.length), (keyCells l)[n * 2]? = some (.int .i64 (l[n].1 : Int)) ∧ (keyCells l)[n * 2 + 1]? = some (.bool l[n].2)
  | [], _, h => by simp at h
  | t :: ts, 0, _ => by simp [keyCells]
  | t :: ts, n + 1, h => by
    have ih := keyCells_get ts n (by simpa using h)
    have e1 : (n + 1) * 2 = n * 2 + 2 := by omega
    simp only [keyCells, List.flatMap_cons, List.getElem_cons_succ] at ih ⊢
    rw [e1, List.getElem?_append_right (by simp), List.getElem?_append_right (by simp)]
    simpa using ih
set_option maxHeartbeats 400000 in
theorem hasCol_any {w : World} {B : Nat} {v : Value} {l : List Nat} (h : w.ownsRow B 107 1 v l.length (colCells l)) (hl : l.length ≤ 1000) (c : Nat) :
    Calls Tryd.prog 62 #[v, .int .i64 (c : Int)] w fun e w' => e = .returned (.bool (Pq.hasC l c)) ∧ w = w' := by
  rcases own_form h with ⟨rfl, h0⟩ | ⟨g, cap, rfl⟩
  · have HR : Hid (Pq.hasC l c = false) := Pq.hasC_false (fun j hj => by omega)
    clear h
    go_enter Tryd.func62, Tryd.ntmps62
    go_wp2
    refine wp_loop_rounds 1 ?_; rw [rounds_succ]
    go_wp2
    go_ret
    exact ⟨by rw [HR.out]; rfl, rfl⟩
  · have hc : ∀ (k : Nat) (hk : k < l.length), w.cell? ⟨g, k, none⟩ = some (.int .i64 (l[k] : Int)) := by
      intro k hk
      exact own_cells h k _ (by simp [colCells, hk])
    clear h
    have HC := hide hc
    clear hc
    go_enter Tryd.func62, Tryd.ntmps62
    go_wp2
    go_loop [5] (fun i => ∃ k : Nat, k ≤ l.length ∧ i = .int .i64 k ∧ Hid (∀ j (hj : j < l.length), j < k → l[j] ≠ c)) (fun i => l.length - (intOf i).toNat)
    case atStart => exact ⟨0, by omega, rfl, fun j hj h => by omega⟩
    case round =>
      obtain ⟨k, hk, rfl, HN⟩ := hrel
      by_cases hlt : k < l.length
      · have hck := HC.out k hlt
        by_cases he : l[k] = c
        · have he' : ((l[k] : Int) == (c : Int)) = true := by rw [he]; simp
          have HR := hide (Pq.hasC_true hlt he)
          clear he
          go_wp2
          go_ret
          exact ⟨by rw [HR.out]; rfl, rfl⟩
        · have he' : ((l[k] : Int) == (c : Int)) = false := by rw [beq_eq_false_iff_ne]; intro h'; exact he (by omega)
          have HE := hide he
          clear he
          go_wp2
          go_round
          case rel =>
            refine ⟨k + 1, by omega, by go_num, fun j hj hjk => ?_⟩
            rcases Nat.lt_or_eq_of_le (Nat.le_of_lt_succ hjk) with h' | h'
            · exact HN.out j hj h'
            · subst h'; exact HE.out
          case measure => simp [intOf]; omega
      · have HR : Hid (Pq.hasC l c = false) := Pq.hasC_false (fun j hj => HN.out j hj (by omega))
        go_wp2
        go_ret
        exact ⟨by rw [HR.out]; rfl, rfl⟩
set_option maxHeartbeats 400000 in
theorem hasKey_any {w : World} {B : Nat} {v : Value} {l : List (Nat × Bool)} (h : w.ownsRow B 109 2 v l.length (keyCells l)) (hl : l.length ≤ 1000) (c : Nat) :
    Calls Tryd.prog 64 #[v, .int .i64 (c : Int)] w fun e w' => e = .returned (.bool (Pq.hasK l c)) ∧ w = w' := by
  rcases own_form h with ⟨rfl, h0⟩ | ⟨g, cap, rfl⟩
  · have HR : Hid (Pq.hasK l c = false) := Pq.hasK_false (fun j hj => by omega)
    clear h
    go_enter Tryd.func64, Tryd.ntmps64
    go_wp2
    refine wp_loop_rounds 1 ?_; rw [rounds_succ]
    go_wp2
    go_ret
    exact ⟨by rw [HR.out]; rfl, rfl⟩
  · have hc : ∀ (k : Nat) (hk : k < l.length), w.cell? ⟨g, k * 2, none⟩ = some (.int .i64 (l[k].1 : Int)) := by
      intro k hk
      exact own_cells h (k * 2) _ (keyCells_get l k hk).1
    clear h
    have HC := hide hc
    clear hc
    go_enter Tryd.func64, Tryd.ntmps64
    go_wp2
    go_loop [5] (fun i => ∃ k : Nat, k ≤ l.length ∧ i = .int .i64 k ∧ Hid (∀ j (hj : j < l.length), j < k → l[j].1 ≠ c)) (fun i => l.length - (intOf i).toNat)
    case atStart => exact ⟨0, by omega, rfl, fun j hj h => by omega⟩
    case round =>
      obtain ⟨k, hk, rfl, HN⟩ := hrel
      by_cases hlt : k < l.length
      · have hck := HC.out k hlt
        by_cases he : l[k].1 = c
        · have he' : ((l[k].1 : Int) == (c : Int)) = true := by rw [he]; simp
          have HR := hide (Pq.hasK_true hlt he)
          clear he
          go_wp2
          go_ret
          exact ⟨by rw [HR.out]; rfl, rfl⟩
        · have he' : ((l[k].1 : Int) == (c : Int)) = false := by rw [beq_eq_false_iff_ne]; intro h'; exact he (by omega)
          have HE := hide he
          clear he
          go_wp2
          go_round
          case rel =>
            refine ⟨k + 1, by omega, by go_num, fun j hj hjk => ?_⟩
            rcases Nat.lt_or_eq_of_le (Nat.le_of_lt_succ hjk) with h' | h'
            · exact HN.out j hj h'
            · subst h'; exact HE.out
          case measure => simp [intOf]; omega
      · have HR : Hid (Pq.hasK l c = false) := Pq.hasK_false (fun j hj => HN.out j hj (by omega))
        go_wp2
        go_ret
        exact ⟨by rw [HR.out]; rfl, rfl⟩
end Go.Proofs.YtcoofnhdbejnpaaDoor
