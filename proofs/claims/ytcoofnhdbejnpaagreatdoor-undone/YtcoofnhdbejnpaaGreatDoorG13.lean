/- Plain functions: the value of a FUNC at a position, as package lines tells it; the positions that are shown. -/
import Derived.Test.YtcoofnhdbejnpaaGreatDoorG12
import Derived.Test.YtcoofnhdbejnpaaGreatDoorG01
import Derived.Test.YtcoofnhdbejnpaaGreatDoorG10
namespace Go.Proofs.YtcoofnhdbejnpaaGreatDoor
namespace Pv
open Pq Pr
/-- the column of the copy at a position, if there is one -/
def columnP (l : List R3) (c : Nat) (i : Int) : Val := if i < 1 ∨ (l.length : Int) < i then none else (l[(i - 1).toNat]?).map (colV c)
theorem columnP_in (l : List R3) (c : Nat) (j : Nat) (h : j < l.length) : columnP l c (j + 1 : Nat) = some (colV c l[j]) := by
  unfold columnP
  rw [if_neg (by omega), show ((((j + 1 : Nat) : Int) - 1).toNat) = j by omega, List.getElem?_eq_getElem h]; rfl
theorem cp_get (l : List R3) (i : Nat) (h : i < l.length) : (cp l)[i]? = some (l[i], 0) := by
  unfold cp; rw [List.getElem?_map, List.getElem?_eq_getElem h]; rfl
theorem cp_len (l : List R3) : (cp l).length = l.length := by simp [cp]
theorem valR_number {ks : List (Nat × Bool)} {l : List R3} {f : Fn} {i : Nat} (hi : i < l.length) (hf : f.kind = 0) : valR ks l f (i + 1) = some ((i : Int) + 1) := by
  unfold valR valueF
  rw [Nat.add_sub_cancel, cp_get l i hi]
  simp [hf]
theorem valR_rank {ks : List (Nat × Bool)} {l : List R3} {f : Fn} {i a : Nat} (h : SrtL ks l) (hi : i < l.length) (hf : f.kind = 1) (hai : a ≤ i) (he : endsP ks l (a : Nat) = true) (hm : ∀ j : Nat, a < j → j ≤ i → endsP ks l (j : Nat) = false) : valR ks l f (i + 1) = some ((a : Int) + 1) := by
  unfold valR valueF
  rw [Nat.add_sub_cancel, cp_get l i hi]
  have := first_peer h hi hai he hm
  simp [hf, this]; omega
theorem valR_dense {ks : List (Nat × Bool)} {l : List R3} {f : Fn} {i : Nat} (h : SrtL ks l) (hi : i < l.length) (hf : f.kind = 2) : valR ks l f (i + 1) = some (groupsN ks l i) := by
  unfold valR valueF
  rw [Nat.add_sub_cancel, cp_get l i hi]
  simp [hf, groupsN_eq h i hi]
theorem valR_tile {ks : List (Nat × Bool)} {l : List R3} {f : Fn} {i : Nat} (hi : i < l.length) (hf : f.kind = 3) (hm : 1 ≤ f.num) : valR ks l f (i + 1) = some (tileP ((i : Int) + 1) l.length f.num) := by
  unfold valR valueF
  rw [Nat.add_sub_cancel, cp_get l i hi]
  rw [tileP_eq (by omega) (by omega) hm]
  simp [hf, cp_len]
theorem valR_lag {ks : List (Nat × Bool)} {l : List R3} {f : Fn} {i : Nat} (hi : i < l.length) (hf : f.kind = 4) : valR ks l f (i + 1) = columnP l f.col ((i : Int) + 1 - f.num) := by
  unfold valR valueF columnP
  rw [Nat.add_sub_cancel, cp_get l i hi]
  simp only [hf, cp_len]
  simp [cp]
  rfl
theorem valR_lead {ks : List (Nat × Bool)} {l : List R3} {f : Fn} {i : Nat} (hi : i < l.length) (hf : f.kind = 5) : valR ks l f (i + 1) = columnP l f.col ((i : Int) + 1 + f.num) := by
  unfold valR valueF columnP
  rw [Nat.add_sub_cancel, cp_get l i hi]
  simp only [hf, cp_len]
  simp [cp]
  rfl
theorem valR_over {ks : List (Nat × Bool)} {l : List R3} {f : Fn} {i : Nat} (hi : i < l.length) (hf : 6 ≤ f.kind) : valR ks l f (i + 1) = overF f.kind f.col (insideF ks f.frame l.length l[i] ((i : Int) + 1) 1 (cp l)) := by
  unfold valR valueF
  rw [Nat.add_sub_cancel, cp_get l i hi]
  simp only [cp_len]
  rw [if_neg (by omega), if_neg (by omega), if_neg (by omega), if_neg (by omega), if_neg (by omega)]
  rfl
/-- the stretch between two positions -/
def segI (l : List R3) (a b : Int) : List R3 := segR l a.toNat b.toNat
theorem segI_none (l : List R3) (a b : Int) (h : b < a) : segI l a b = [] := by
  unfold segI
  by_cases ha : 1 ≤ a
  · exact seg_none l _ _ (by omega)
  · unfold segR
    rw [show b.toNat = 0 by omega]; simp
theorem over_none {k c : Nat} : overF k c [] = if k = 6 then some 0 else none := by
  unfold overF
  split <;> rfl
theorem over_some {k c : Nat} {l : List R3} {a b : Nat} (ha : a < b) (hb : b ≤ l.length) : overF k c (segR l (a + 1) b) = if k = 6 then some ((b : Int) - a) else if k = 7 then some (sumC c (segR l (a + 1) b)) else if k = 8 then some (minC c (colV c l[a]) (segR l (a + 1) b)) else if k = 9 then some (maxC c (colV c l[a]) (segR l (a + 1) b)) else if k = 10 then some (colV c l[a]) else some (colV c (l[b - 1]'(by omega))) := by
  obtain ⟨q, hq⟩ := seg_head l (a + 1) b (by omega) (by omega) hb
  have hl := seg_len l (a + 1) b (by omega) (by omega) hb
  have hs : segR l (a + 1) b = segR l (a + 1) (b - 1) ++ [l[b - 1]'(by omega)] := by
    have := seg_succ l (a + 1) (b - 1) (by omega) (by omega)
    rw [show b - 1 + 1 = b by omega] at this
    exact this
  have hlast : ∀ (m : List R3) (h : m ≠ []), m = segR l (a + 1) b → m.getLast h = l[b - 1]'(by omega) := fun m h e => by
    subst e
    simp only [hs]
    simp
  unfold overF
  rw [hl]
  by_cases h6 : k = 6
  · rw [if_pos h6, if_pos h6]; congr 1; omega
  · rw [if_neg h6, if_neg h6, hq]
    simp only [Nat.add_sub_cancel]
    have hq2 : l[a] :: q = segR l (a + 1) b := hq.symm
    rw [hlast (l[a] :: q) (by simp) hq2]
/-- the out row of a position -/
def outAt (q : Qry) (l : List R3) (i : Nat) : Out := ((l[i - 1]?).getD (0, 0, 0), q.fs.map (fun f => valR q.ks l f i), 1)
def segO (q : Qry) (l : List R3) (a b : Nat) : List Out := (List.range (b + 1 - a)).map (fun j => outAt q l (a + j))
theorem segO_succ (q : Qry) (l : List R3) (a b : Nat) (h : a ≤ b + 1) : segO q l a (b + 1) = segO q l a b ++ [outAt q l (b + 1)] := by
  unfold segO
  rw [show b + 1 + 1 - a = b + 1 - a + 1 by omega, List.range_succ, List.map_append]
  simp [show a + (b + 1 - a) = b + 1 by omega]
theorem segO_none (q : Qry) (l : List R3) (a b : Nat) (h : b < a) : segO q l a b = [] := by
  unfold segO; rw [show b + 1 - a = 0 by omega]; rfl
theorem segO_cons (q : Qry) (l : List R3) (a b : Nat) (h : a ≤ b) : segO q l a b = outAt q l a :: segO q l (a + 1) b := by
  unfold segO
  rw [show b + 1 - a = b + 1 - (a + 1) + 1 by omega, List.range_succ_eq_map, List.map_cons, List.map_map]
  congr 1
  refine List.map_congr_left (fun j _ => ?_)
  show outAt q l (a + (j + 1)) = outAt q l (a + 1 + j)
  congr 1; omega
theorem shownG_seg {q : Qry} {l : List R3} {a b : Nat} (hb : b ≤ l.length) (h : ∀ i : Nat, 1 ≤ i → i ≤ l.length → topOk q i = decide (a ≤ i ∧ i ≤ b)) : ∀ (m : List R3) (k : Nat), m = l.drop k → shownG q l (k + 1) m = segO q l (max a (k + 1)) b
  | [], k, e => by
    have : l.length ≤ k := by
      have := congrArg List.length e
      simp at this; omega
    rw [segO_none q l _ _ (by omega)]; rfl
  | x :: m, k, e => by
    have hk : k < l.length := by
      have := congrArg List.length e
      simp at this; omega
    rw [List.drop_eq_getElem_cons hk] at e
    obtain ⟨rfl, rfl⟩ := List.cons.inj e
    have ih := shownG_seg hb h (l.drop (k + 1)) (k + 1) rfl
    rw [shownG, ih, h (k + 1) (by omega) (by omega)]
    by_cases hin : a ≤ k + 1 ∧ k + 1 ≤ b
    · rw [if_pos (by simpa using hin), show max a (k + 1) = k + 1 by omega, show max a (k + 1 + 1) = k + 1 + 1 by omega, segO_cons q l (k + 1) b hin.2]
      congr 1
      unfold outAt
      rw [Nat.add_sub_cancel, List.getElem?_eq_getElem hk]
      rfl
    · rw [if_neg (by simpa using hin)]
      by_cases hkb : b < k + 1
      · rw [segO_none q l _ _ (by omega), segO_none q l _ _ (by omega)]
      · rw [show max a (k + 1) = max a (k + 1 + 1) by omega]
def showA (q : Qry) : Int := if q.top < 0 then 1 else cutA (q.frm + 1)
def showB (q : Qry) (n : Int) : Int := if q.top < 0 then n else cutB (q.frm + q.top) n
theorem shownP_seg {q : Qry} (hf : 0 ≤ q.frm) (l : List R3) : shownP q l = segO q l (showA q).toNat (showB q l.length).toNat ∧ 1 ≤ showA q ∧ showB q l.length ≤ l.length ∧ 0 ≤ showB q l.length := by
  have h1 : 1 ≤ showA q := by unfold showA cutA; split <;> (try split) <;> omega
  have h2 : showB q l.length ≤ l.length := by unfold showB cutB; split <;> (try split) <;> omega
  have h3 : 0 ≤ showB q l.length := by unfold showB cutB; split <;> (try split) <;> omega
  refine ⟨?_, h1, h2, h3⟩
  unfold shownP
  have := shownG_seg (q := q) (l := l) (a := (showA q).toNat) (b := (showB q l.length).toNat) (by omega) (fun i hi hil => ?_) l 0 (by simp)
  · rw [show max (showA q).toNat (0 + 1) = (showA q).toNat by omega] at this
    exact this
  · unfold topOk showA showB cutA cutB
    rw [Bool.eq_iff_iff]
    simp only [Bool.or_eq_true, Bool.and_eq_true, decide_eq_true_eq]
    by_cases ht : q.top < 0
    · rw [if_pos ht, if_pos ht]; omega
    · rw [if_neg ht, if_neg ht]
      split <;> split <;> omega
theorem segO_len (q : Qry) (l : List R3) (a b : Nat) : (segO q l a b).length = b + 1 - a := by simp [segO]
end Pv
end Go.Proofs.YtcoofnhdbejnpaaGreatDoor

/- Package queries: the parser with the three lists that it owns. -/
namespace Go.Proofs.YtcoofnhdbejnpaaGreatDoor
open Go.RowKit
def colCells (l : List Nat) : List Value := l.map (fun c : Nat => Value.int .i64 (c : Int))
def keyCells (l : List (Nat × Bool)) : List Value := l.flatMap (fun k : Nat × Bool => [Value.int .i64 (k.1 : Int), .bool k.2])
def fnCell (f : Pq.Fn) : List Value := [.int .i64 (f.kind : Int), .int .i64 (f.col : Int), .int .i64 f.num, .int .i64 (f.frame.kind : Int), .int .i64 f.frame.num, .int .i64 (f.frame.frm.kind : Int), .int .i64 f.frame.frm.num, .int .i64 (f.frame.to.kind : Int), .int .i64 f.frame.to.num]
def fnCells (l : List Pq.Fn) : List Value := l.flatMap fnCell
theorem own_block {w : World} {B T n : Nat} {v : Value} {k : Nat} {xs : List Value} (h : w.ownsRow B T n v k xs) {c : Nat} (hc : v.ownBlock = some c) : ∃ cur, w.heap[c]? = some (.cells cur T (0, 0)) ∧ B ≤ c := by
  rcases h.2 with ⟨rfl, _⟩ | ⟨g, cap, cur, rfl, hb, hg, _⟩
  · simp [Value.ownBlock] at hc
  · simp [Value.ownBlock] at hc; subst hc; exact ⟨cur, hg, hb⟩
theorem own_ne {w : World} {B T n : Nat} {v : Value} {k : Nat} {xs : List Value} (h : w.ownsRow B T n v k xs) {c T' : Nat} {cs : Array Value} {fr : Nat × Nat} (hc : w.heap[c]? = some (.cells cs T' fr)) (hT : T ≠ T') : v.ownBlock ≠ some c := by
  intro e
  obtain ⟨cur, hcur, _⟩ := own_block h e
  rw [hc] at hcur
  simp at hcur
  exact hT hcur.2.1.symm
theorem own_sep {w : World} {B T n B' T' n' : Nat} {v v' : Value} {k k' : Nat} {xs xs' : List Value} (h : w.ownsRow B T n v k xs) (h' : w.ownsRow B' T' n' v' k' xs') (hT : T ≠ T') : v.ownBlock = none ∨ v.ownBlock ≠ v'.ownBlock := by
  cases hv : v.ownBlock with
  | none => exact .inl rfl
  | some c =>
    refine .inr fun e => ?_
    obtain ⟨cur, hcur, _⟩ := own_block h hv
    obtain ⟨cur', hcur', _⟩ := own_block h' e.symm
    rw [hcur] at hcur'
    simp at hcur'
    exact hT hcur'.2
theorem own_Gb {w w' : World} {B T n : Nat} {v : Value} {k : Nat} {xs : List Value} (h : w.ownsRow B T n v k xs) {b T' : Nat} {cs : Array Value} {fr : Nat × Nat} (hc : w.heap[b]? = some (.cells cs T' fr)) (hT : T ≠ T') (hg : Gb b w w') : w'.ownsRow B T n v k xs :=
  h.kept hg (.inr (own_ne h hc hT))
structure PAl (w : World) (B b g cap len : Nat) (toks : List Pq.Tok) (vb vk vf : Value) (s : Pq.PS) : Prop where
  pin : PIn w b g cap len toks vb vk vf s
  oby : w.ownsRow B 215 1 vb s.by'.length (colCells s.by')
  okey : w.ownsRow B 253 2 vk s.keys.length (keyCells s.keys)
  ofun : w.ownsRow B 223 9 vf s.funcs.length (fnCells s.funcs)
  lby : s.by'.length ≤ s.next + 1
  lkey : s.keys.length ≤ s.next + 1
  lfun : s.funcs.length ≤ s.next + 1
  hB : B ≤ b
/-- the same lists, another place: behind a step that turns block b alone -/
theorem PAl.moved {w w' : World} {B b g cap len : Nat} {toks : List Pq.Tok} {vb vk vf : Value} {s s' : Pq.PS} (h : PAl w B b g cap len toks vb vk vf s) (hp : PIn w' b g cap len toks vb vk vf s') (hg : Gb b w w')
    (e1 : s'.by' = s.by') (e2 : s'.keys = s.keys) (e3 : s'.funcs = s.funcs) (hn : s.next ≤ s'.next) : PAl w' B b g cap len toks vb vk vf s' := by
  refine ⟨hp, ?_, ?_, ?_, ?_, ?_, ?_, h.hB⟩
  · rw [e1]; exact own_Gb h.oby h.pin.blk (by decide) hg
  · rw [e2]; exact own_Gb h.okey h.pin.blk (by decide) hg
  · rw [e3]; exact own_Gb h.ofun h.pin.blk (by decide) hg
  · rw [e1]; have := h.lby; omega
  · rw [e2]; have := h.lkey; omega
  · rw [e3]; have := h.lfun; omega
theorem Gb.below {b B : Nat} {w w' : World} (h : Gb b w w') (hB : B ≤ b) (hs : b < w.heap.size) : Below B w w' :=
  ⟨h.os, h.tape, h.output, h.size, fun k hk => h.block k (by omega) (by simp; omega)⟩
theorem own_cells {w : World} {B T n : Nat} {g cap k : Nat} {xs : List Value} (h : w.ownsRow B T n (.slice (some ⟨g, 0, none⟩) k cap) k xs) (j : Nat) (u : Value) (hu : xs[j]? = some u) : w.cell? ⟨g, j, none⟩ = some u := by
  have := h.cells (g := g) rfl j u hu
  have hadd : (⟨g, 0, none⟩ : Addr).add j = ⟨g, j, none⟩ := by unfold Addr.add; split <;> simp_all
  rwa [hadd] at this
theorem own_form {w : World} {B T n : Nat} {v : Value} {k : Nat} {xs : List Value} (h : w.ownsRow B T n v k xs) : (v = .slice none 0 0 ∧ k = 0) ∨ ∃ g cap, v = .slice (some ⟨g, 0, none⟩) k cap := by
  rcases h.2 with h' | ⟨g, cap, cur, rfl, _⟩
  · exact .inl h'
  · exact .inr ⟨g, cap, rfl⟩
theorem keyCells_get : ∀ (l : List (Nat × Bool)) (n : Nat) (h : n < l.length), (keyCells l)[n * 2]? = some (.int .i64 (l[n].1 : Int)) ∧ (keyCells l)[n * 2 + 1]? = some (.bool l[n].2)
  | [], _, h => by simp at h
  | t :: ts, 0, _ => by simp [keyCells]
  | t :: ts, n + 1, h => by
    have ih := keyCells_get ts n (by simpa using h)
    have e1 : (n + 1) * 2 = n * 2 + 2 := by omega
    simp only [keyCells, List.flatMap_cons, List.getElem_cons_succ] at ih ⊢
    rw [e1, List.getElem?_append_right (by simp), List.getElem?_append_right (by simp)]
    simpa using ih
set_option maxHeartbeats 400000 in
theorem hasCol_any {w : World} {B : Nat} {v : Value} {l : List Nat} (h : w.ownsRow B 215 1 v l.length (colCells l)) (hl : l.length ≤ 1000) (c : Nat) :
    Calls Tryz.prog 168 #[v, .int .i64 (c : Int)] w fun e w' => e = .returned (.bool (Pq.hasC l c)) ∧ w = w' := by
  rcases own_form h with ⟨rfl, h0⟩ | ⟨g, cap, rfl⟩
  · have HR : Hid (Pq.hasC l c = false) := Pq.hasC_false (fun j hj => by omega)
    clear h
    go_enter Tryz.func168, Tryz.ntmps168
    go_wp2
    refine wp_loop_rounds 1 ?_; rw [rounds_succ]
    go_wp2
    go_ret
    exact ⟨by rw [HR.out]; rfl, rfl⟩
  · have hc : ∀ (k : Nat) (hk : k < l.length), w.cell? ⟨g, k, none⟩ = some (.int .i64 (l[k] : Int)) := by
      intro k hk
      exact own_cells h k _ (by simp [colCells, hk])
    clear h
    have HC := hide hc
    clear hc
    go_enter Tryz.func168, Tryz.ntmps168
    go_wp2
    go_loop [5] (fun i => ∃ k : Nat, k ≤ l.length ∧ i = .int .i64 k ∧ Hid (∀ j (hj : j < l.length), j < k → l[j] ≠ c)) (fun i => l.length - (intOf i).toNat)
    case atStart => exact ⟨0, by omega, rfl, fun j hj h => by omega⟩
    case round =>
      obtain ⟨k, hk, rfl, HN⟩ := hrel
      by_cases hlt : k < l.length
      · have hck := HC.out k hlt
        by_cases he : l[k] = c
        · have he' : ((l[k] : Int) == (c : Int)) = true := by rw [he]; simp
          have HR := hide (Pq.hasC_true hlt he)
          clear he
          go_wp2
          go_ret
          exact ⟨by rw [HR.out]; rfl, rfl⟩
        · have he' : ((l[k] : Int) == (c : Int)) = false := by rw [beq_eq_false_iff_ne]; intro h'; exact he (by omega)
          have HE := hide he
          clear he
          go_wp2
          go_round
          case rel =>
            refine ⟨k + 1, by omega, by go_num, fun j hj hjk => ?_⟩
            rcases Nat.lt_or_eq_of_le (Nat.le_of_lt_succ hjk) with h' | h'
            · exact HN.out j hj h'
            · subst h'; exact HE.out
          case measure => simp [intOf]; omega
      · have HR : Hid (Pq.hasC l c = false) := Pq.hasC_false (fun j hj => HN.out j hj (by omega))
        go_wp2
        go_ret
        exact ⟨by rw [HR.out]; rfl, rfl⟩
set_option maxHeartbeats 400000 in
theorem hasKey_any {w : World} {B : Nat} {v : Value} {l : List (Nat × Bool)} (h : w.ownsRow B 253 2 v l.length (keyCells l)) (hl : l.length ≤ 1000) (c : Nat) :
    Calls Tryz.prog 170 #[v, .int .i64 (c : Int)] w fun e w' => e = .returned (.bool (Pq.hasK l c)) ∧ w = w' := by
  rcases own_form h with ⟨rfl, h0⟩ | ⟨g, cap, rfl⟩
  · have HR : Hid (Pq.hasK l c = false) := Pq.hasK_false (fun j hj => by omega)
    clear h
    go_enter Tryz.func170, Tryz.ntmps170
    go_wp2
    refine wp_loop_rounds 1 ?_; rw [rounds_succ]
    go_wp2
    go_ret
    exact ⟨by rw [HR.out]; rfl, rfl⟩
  · have hc : ∀ (k : Nat) (hk : k < l.length), w.cell? ⟨g, k * 2, none⟩ = some (.int .i64 (l[k].1 : Int)) := by
      intro k hk
      exact own_cells h (k * 2) _ (keyCells_get l k hk).1
    clear h
    have HC := hide hc
    clear hc
    go_enter Tryz.func170, Tryz.ntmps170
    go_wp2
    go_loop [5] (fun i => ∃ k : Nat, k ≤ l.length ∧ i = .int .i64 k ∧ Hid (∀ j (hj : j < l.length), j < k → l[j].1 ≠ c)) (fun i => l.length - (intOf i).toNat)
    case atStart => exact ⟨0, by omega, rfl, fun j hj h => by omega⟩
    case round =>
      obtain ⟨k, hk, rfl, HN⟩ := hrel
      by_cases hlt : k < l.length
      · have hck := HC.out k hlt
        by_cases he : l[k].1 = c
        · have he' : ((l[k].1 : Int) == (c : Int)) = true := by rw [he]; simp
          have HR := hide (Pq.hasK_true hlt he)
          clear he
          go_wp2
          go_ret
          exact ⟨by rw [HR.out]; rfl, rfl⟩
        · have he' : ((l[k].1 : Int) == (c : Int)) = false := by rw [beq_eq_false_iff_ne]; intro h'; exact he (by omega)
          have HE := hide he
          clear he
          go_wp2
          go_round
          case rel =>
            refine ⟨k + 1, by omega, by go_num, fun j hj hjk => ?_⟩
            rcases Nat.lt_or_eq_of_le (Nat.le_of_lt_succ hjk) with h' | h'
            · exact HN.out j hj h'
            · subst h'; exact HE.out
          case measure => simp [intOf]; omega
      · have HR : Hid (Pq.hasK l c = false) := Pq.hasK_false (fun j hj => HN.out j hj (by omega))
        go_wp2
        go_ret
        exact ⟨by rw [HR.out]; rfl, rfl⟩
end Go.Proofs.YtcoofnhdbejnpaaGreatDoor

/- Package queries: readBy. -/
namespace Go.Proofs.YtcoofnhdbejnpaaGreatDoor
open Go.RowKit
theorem PIn.cells3 {w : World} {b g cap len : Nat} {toks : List Pq.Tok} {vb vk vf : Value} {s : Pq.PS} (h : PIn w b g cap len toks vb vk vf s) : w.cell? ⟨b, 4, none⟩ = some vb ∧ w.cell? ⟨b, 5, none⟩ = some vk ∧ w.cell? ⟨b, 6, none⟩ = some vf := by
  simp [World.cell?, h.blk, psCells]
theorem PAl.pushBy {w : World} {B b g cap len : Nat} {toks : List Pq.Tok} {vb vk vf : Value} {s : Pq.PS} (h : PAl w B b g cap len toks vb vk vf s) (o : Obj) {w5 : World} {g1 cap1 : Nat} (x : Nat) (hown : w5.ownsRow B 215 1 (.slice (some ⟨g1, 0, none⟩) (s.by'.length + 1) cap1) (s.by'.length + 1) (colCells s.by' ++ [.int .i64 (x : Int)]))
    (hgrow : (w.alloc o).drew.grownBy w5 vb.ownBlock) (hl : s.by'.length ≤ s.next) (hBs : B ≤ w.heap.size) :
    PIn w5 b g cap len toks vb vk vf s ∧ PAl (w5.setCell ⟨b, 4, none⟩ (.slice (some ⟨g1, 0, none⟩) (s.by'.length + 1) cap1)) B b g cap len toks (.slice (some ⟨g1, 0, none⟩) (s.by'.length + 1) cap1) vk vf { s with by' := s.by' ++ [x] } ∧ Below B w (w5.setCell ⟨b, 4, none⟩ (.slice (some ⟨g1, 0, none⟩) (s.by'.length + 1) cap1)) := by
  have ha := (h.pin.alloc o).drew
  have hnb := own_ne h.oby h.pin.blk (by decide)
  obtain ⟨cur, hgc, _⟩ := h.pin.row
  have hng := own_ne h.oby hgc (by decide)
  have p5 : PIn w5 b g cap len toks vb vk vf s := ha.congr (hgrow.block b ha.lt.1 (Ne.symm hnb)) (hgrow.block g ha.lt.2 (Ne.symm hng))
  have p6 : PIn (w5.setCell ⟨b, 4, none⟩ (.slice (some ⟨g1, 0, none⟩) (s.by'.length + 1) cap1)) b g cap len toks (.slice (some ⟨g1, 0, none⟩) (s.by'.length + 1) cap1) vk vf { s with by' := s.by' ++ [x] } := p5.set 4 _ _ _ _ _ (by simp [psCells]) p5.le
  have G6 : Gb b w5 (w5.setCell ⟨b, 4, none⟩ (.slice (some ⟨g1, 0, none⟩) (s.by'.length + 1) cap1)) := (Gb.refl b w5).set _ _
  have kokey := own_Gb ((h.okey.alloc o).drew.kept hgrow (own_sep h.okey h.oby (by decide))) p5.blk (by decide) G6
  have kofun := own_Gb ((h.ofun.alloc o).drew.kept hgrow (own_sep h.ofun h.oby (by decide))) p5.blk (by decide) G6
  refine ⟨p5, ?_, ?_⟩
  · refine ⟨p6, ?_, ?_, ?_, ?_, ?_, ?_, h.hB⟩
    · have := own_Gb hown p5.blk (by decide) G6
      simpa [colCells] using this
    · exact kokey
    · exact kofun
    · simp only [List.length_append, List.length_cons, List.length_nil]; omega
    · exact h.lkey
    · exact h.lfun
  · exact (((Below.refl B w).alloc hBs o).drew.grown hgrow (by simp; omega) (fun k hk => (own_block h.oby hk).elim fun _ hx => hx.2)).setCell h.hB _

theorem PAl.pushKey {w : World} {B b g cap len : Nat} {toks : List Pq.Tok} {vb vk vf : Value} {s : Pq.PS} (h : PAl w B b g cap len toks vb vk vf s) (o : Obj) {w5 : World} {g1 cap1 : Nat} (x : Nat × Bool) (hown : w5.ownsRow B 253 2 (.slice (some ⟨g1, 0, none⟩) (s.keys.length + 1) cap1) (s.keys.length + 1) (keyCells s.keys ++ [.int .i64 (x.1 : Int), .bool x.2]))
    (hgrow : (w.alloc o).drew.grownBy w5 vk.ownBlock) (hl : s.keys.length ≤ s.next) (hBs : B ≤ w.heap.size) :
    PIn w5 b g cap len toks vb vk vf s ∧ PAl (w5.setCell ⟨b, 5, none⟩ (.slice (some ⟨g1, 0, none⟩) (s.keys.length + 1) cap1)) B b g cap len toks vb (.slice (some ⟨g1, 0, none⟩) (s.keys.length + 1) cap1) vf { s with keys := s.keys ++ [x] } ∧ Below B w (w5.setCell ⟨b, 5, none⟩ (.slice (some ⟨g1, 0, none⟩) (s.keys.length + 1) cap1)) := by
  have ha := (h.pin.alloc o).drew
  have hnb := own_ne h.okey h.pin.blk (by decide)
  obtain ⟨cur, hgc, _⟩ := h.pin.row
  have hng := own_ne h.okey hgc (by decide)
  have p5 : PIn w5 b g cap len toks vb vk vf s := ha.congr (hgrow.block b ha.lt.1 (Ne.symm hnb)) (hgrow.block g ha.lt.2 (Ne.symm hng))
  have p6 : PIn (w5.setCell ⟨b, 5, none⟩ (.slice (some ⟨g1, 0, none⟩) (s.keys.length + 1) cap1)) b g cap len toks vb (.slice (some ⟨g1, 0, none⟩) (s.keys.length + 1) cap1) vf { s with keys := s.keys ++ [x] } := p5.set 5 _ _ _ _ _ (by simp [psCells]) p5.le
  have G6 : Gb b w5 (w5.setCell ⟨b, 5, none⟩ (.slice (some ⟨g1, 0, none⟩) (s.keys.length + 1) cap1)) := (Gb.refl b w5).set _ _
  have koby := own_Gb ((h.oby.alloc o).drew.kept hgrow (own_sep h.oby h.okey (by decide))) p5.blk (by decide) G6
  have kofun := own_Gb ((h.ofun.alloc o).drew.kept hgrow (own_sep h.ofun h.okey (by decide))) p5.blk (by decide) G6
  refine ⟨p5, ?_, ?_⟩
  · refine ⟨p6, ?_, ?_, ?_, ?_, ?_, ?_, h.hB⟩
    · exact koby
    · have := own_Gb hown p5.blk (by decide) G6
      simpa [keyCells] using this
    · exact kofun
    · exact h.lby
    · simp only [List.length_append, List.length_cons, List.length_nil]; omega
    · exact h.lfun
  · exact (((Below.refl B w).alloc hBs o).drew.grown hgrow (by simp; omega) (fun k hk => (own_block h.okey hk).elim fun _ hx => hx.2)).setCell h.hB _

theorem PAl.pushFun {w : World} {B b g cap len : Nat} {toks : List Pq.Tok} {vb vk vf : Value} {s : Pq.PS} (h : PAl w B b g cap len toks vb vk vf s) (o : Obj) {w5 : World} {g1 cap1 : Nat} (x : Pq.Fn) (hown : w5.ownsRow B 223 9 (.slice (some ⟨g1, 0, none⟩) (s.funcs.length + 1) cap1) (s.funcs.length + 1) (fnCells s.funcs ++ fnCell x))
    (hgrow : (w.alloc o).drew.grownBy w5 vf.ownBlock) (hl : s.funcs.length ≤ s.next) (hBs : B ≤ w.heap.size) :
    PIn w5 b g cap len toks vb vk vf s ∧ PAl (w5.setCell ⟨b, 6, none⟩ (.slice (some ⟨g1, 0, none⟩) (s.funcs.length + 1) cap1)) B b g cap len toks vb vk (.slice (some ⟨g1, 0, none⟩) (s.funcs.length + 1) cap1) { s with funcs := s.funcs ++ [x] } ∧ Below B w (w5.setCell ⟨b, 6, none⟩ (.slice (some ⟨g1, 0, none⟩) (s.funcs.length + 1) cap1)) := by
  have ha := (h.pin.alloc o).drew
  have hnb := own_ne h.ofun h.pin.blk (by decide)
  obtain ⟨cur, hgc, _⟩ := h.pin.row
  have hng := own_ne h.ofun hgc (by decide)
  have p5 : PIn w5 b g cap len toks vb vk vf s := ha.congr (hgrow.block b ha.lt.1 (Ne.symm hnb)) (hgrow.block g ha.lt.2 (Ne.symm hng))
  have p6 : PIn (w5.setCell ⟨b, 6, none⟩ (.slice (some ⟨g1, 0, none⟩) (s.funcs.length + 1) cap1)) b g cap len toks vb vk (.slice (some ⟨g1, 0, none⟩) (s.funcs.length + 1) cap1) { s with funcs := s.funcs ++ [x] } := p5.set 6 _ _ _ _ _ (by simp [psCells]) p5.le
  have G6 : Gb b w5 (w5.setCell ⟨b, 6, none⟩ (.slice (some ⟨g1, 0, none⟩) (s.funcs.length + 1) cap1)) := (Gb.refl b w5).set _ _
  have koby := own_Gb ((h.oby.alloc o).drew.kept hgrow (own_sep h.oby h.ofun (by decide))) p5.blk (by decide) G6
  have kokey := own_Gb ((h.okey.alloc o).drew.kept hgrow (own_sep h.okey h.ofun (by decide))) p5.blk (by decide) G6
  refine ⟨p5, ?_, ?_⟩
  · refine ⟨p6, ?_, ?_, ?_, ?_, ?_, ?_, h.hB⟩
    · exact koby
    · exact kokey
    · have := own_Gb hown p5.blk (by decide) G6
      simpa [fnCells] using this
    · exact h.lby
    · exact h.lkey
    · simp only [List.length_append, List.length_cons, List.length_nil]; omega
  · exact (((Below.refl B w).alloc hBs o).drew.grown hgrow (by simp; omega) (fun k hk => (own_block h.ofun hk).elim fun _ hx => hx.2)).setCell h.hB _

/-- the place at which the parser in block b stands -/
def nextAt (w : World) (b : Nat) : Nat := match w.cell? ⟨b, 2, none⟩ with | some v => (intOf v).toNat | none => 0
theorem PIn.nextAt {w : World} {b g cap len : Nat} {toks : List Pq.Tok} {vb vk vf : Value} {s : Pq.PS} (h : PIn w b g cap len toks vb vk vf s) : nextAt w b = s.next := by unfold Go.Proofs.YtcoofnhdbejnpaaGreatDoor.nextAt; rw [h.cells.2.2.1]; simp [intOf]
/-- a measure for a loop that goes on while a token is taken -/
def moreM (n : Nat) : Value → Nat → Nat | .bool true, k => n + 1 - k | _, _ => 0
theorem grown_drew {w w' : World} {r : Option Nat} (h : w.grownBy w' r) : w.drew.grownBy w' r := ⟨h.os, h.tape, h.output, h.size, h.block⟩
end Go.Proofs.YtcoofnhdbejnpaaGreatDoor

