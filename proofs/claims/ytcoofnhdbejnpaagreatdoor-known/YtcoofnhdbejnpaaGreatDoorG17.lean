/- Package queries: the parser with the three lists that it owns. -/
import Derived.Test.YtcoofnhdbejnpaaGreatDoorG01
import Derived.Test.YtcoofnhdbejnpaaGreatDoorG16
import Derived.Deep.CutBlock
import Derived.Test.YtcoofnhdbejnpaaGreatDoorG14
namespace Go.Proofs.YtcoofnhdbejnpaaGreatDoor
open Go.RowKit
def colCells (l : List Nat) : List Value := l.map (fun c : Nat => Value.int .i64 (c : Int))
def keyCells (l : List (Nat × Bool)) : List Value := l.flatMap (fun k : Nat × Bool => [Value.int .i64 (k.1 : Int), .bool k.2])
def fnCell (f : Pq.Fn) : List Value := [.int .i64 (f.kind : Int), .int .i64 (f.col : Int), .int .i64 f.num, .int .i64 (f.frame.kind : Int), .int .i64 f.frame.num, .int .i64 (f.frame.frm.kind : Int), .int .i64 f.frame.frm.num, .int .i64 (f.frame.to.kind : Int), .int .i64 f.frame.to.num]
def fnCells (l : List Pq.Fn) : List Value := l.flatMap fnCell
theorem own_block {w : World} {B T n : Nat} {v : Value} {k : Nat} {xs : List Value} (h : w.ownsRow B T n v k xs) {c : Nat} (hc : v.ownBlock = some c) : ∃ cur, w.heap[c]? = some (.cells cur T (0, 0)) ∧ B ≤ c := by
  rcases h.2 with ⟨rfl, _⟩ | ⟨g, cap, cur, rfl, hb, hg, _⟩
  · simp [Value.ownBlock] at hc
  · simp [Value.ownBlock] at hc; subst hc; exact ⟨cur, hg, hb⟩
theorem own_ne {w : World} {B T n : Nat} {v : Value} {k : Nat} {xs : List Value} (h : w.ownsRow B T n v k xs) {c T' : Nat} {cs : Array Value} {fr : Nat × Nat} (hc : w.heap[c]? = some (.cells cs T' fr)) (hT : T ≠ T') : v.ownBlock ≠ some c := by
  intro e
  obtain ⟨cur, hcur, _⟩ := own_block h e
  rw [hc] at hcur
  simp at hcur
  exact hT hcur.2.1.symm
theorem own_sep {w : World} {B T n B' T' n' : Nat} {v v' : Value} {k k' : Nat} {xs xs' : List Value} (h : w.ownsRow B T n v k xs) (h' : w.ownsRow B' T' n' v' k' xs') (hT : T ≠ T') : v.ownBlock = none ∨ v.ownBlock ≠ v'.ownBlock := by
  cases hv : v.ownBlock with
  | none => exact .inl rfl
  | some c =>
    refine .inr fun e => ?_
    obtain ⟨cur, hcur, _⟩ := own_block h hv
    obtain ⟨cur', hcur', _⟩ := own_block h' e.symm
    rw [hcur] at hcur'
    simp at hcur'
    exact hT hcur'.2
theorem own_Gb {w w' : World} {B T n : Nat} {v : Value} {k : Nat} {xs : List Value} (h : w.ownsRow B T n v k xs) {b T' : Nat} {cs : Array Value} {fr : Nat × Nat} (hc : w.heap[b]? = some (.cells cs T' fr)) (hT : T ≠ T') (hg : Gb b w w') : w'.ownsRow B T n v k xs :=
  h.kept hg (.inr (own_ne h hc hT))
structure PAl (w : World) (B b g cap len : Nat) (toks : List Pq.Tok) (vb vk vf : Value) (s : Pq.PS) : Prop where
  pin : PIn w b g cap len toks vb vk vf s
  oby : w.ownsRow B 215 1 vb s.by'.length (colCells s.by')
  okey : w.ownsRow B 253 2 vk s.keys.length (keyCells s.keys)
  ofun : w.ownsRow B 223 9 vf s.funcs.length (fnCells s.funcs)
  lby : s.by'.length ≤ s.next + 1
  lkey : s.keys.length ≤ s.next + 1
  lfun : s.funcs.length ≤ s.next + 1
  hB : B ≤ b
/-- the same lists, another place: behind a step that turns block b alone -/
theorem PAl.moved {w w' : World} {B b g cap len : Nat} {toks : List Pq.Tok} {vb vk vf : Value} {s s' : Pq.PS} (h : PAl w B b g cap len toks vb vk vf s) (hp : PIn w' b g cap len toks vb vk vf s') (hg : Gb b w w')
    (e1 : s'.by' = s.by') (e2 : s'.keys = s.keys) (e3 : s'.funcs = s.funcs) (hn : s.next ≤ s'.next) : PAl w' B b g cap len toks vb vk vf s' := by
  refine ⟨hp, ?_, ?_, ?_, ?_, ?_, ?_, h.hB⟩
  · rw [e1]; exact own_Gb h.oby h.pin.blk (by decide) hg
  · rw [e2]; exact own_Gb h.okey h.pin.blk (by decide) hg
  · rw [e3]; exact own_Gb h.ofun h.pin.blk (by decide) hg
  · rw [e1]; have := h.lby; omega
  · rw [e2]; have := h.lkey; omega
  · rw [e3]; have := h.lfun; omega
theorem Gb.below {b B : Nat} {w w' : World} (h : Gb b w w') (hB : B ≤ b) (hs : b < w.heap.size) : Below B w w' :=
  ⟨h.os, h.tape, h.output, h.size, fun k hk => h.block k (by omega) (by simp; omega)⟩
theorem own_cells {w : World} {B T n : Nat} {g cap k : Nat} {xs : List Value} (h : w.ownsRow B T n (.slice (some ⟨g, 0, none⟩) k cap) k xs) (j : Nat) (u : Value) (hu : xs[j]? = some u) : w.cell? ⟨g, j, none⟩ = some u := by
  have := h.cells (g := g) rfl j u hu
  have hadd : (⟨g, 0, none⟩ : Addr).add j = ⟨g, j, none⟩ := by unfold Addr.add; split <;> simp_all
  rwa [hadd] at this
theorem own_form {w : World} {B T n : Nat} {v : Value} {k : Nat} {xs : List Value} (h : w.ownsRow B T n v k xs) : (v = .slice none 0 0 ∧ k = 0) ∨ ∃ g cap, v = .slice (some ⟨g, 0, none⟩) k cap := by
  rcases h.2 with h' | ⟨g, cap, cur, rfl, _⟩
  · exact .inl h'
  · exact .inr ⟨g, cap, rfl⟩
theorem keyCells_get : ∀ (l : List (Nat × Bool)) (n : Nat) (h : n < l.length), (keyCells l)[n * 2]? = some (.int .i64 (l[n].1 : Int)) ∧ (keyCells l)[n * 2 + 1]? = some (.bool l[n].2)
  | [], _, h => by simp at h
  | t :: ts, 0, _ => by simp [keyCells]
  | t :: ts, n + 1, h => by
    have ih := keyCells_get ts n (by simpa using h)
    have e1 : (n + 1) * 2 = n * 2 + 2 := by omega
    simp only [keyCells, List.flatMap_cons, List.getElem_cons_succ] at ih ⊢
    rw [e1, List.getElem?_append_right (by simp), List.getElem?_append_right (by simp)]
    simpa using ih
set_option maxHeartbeats 400000 in
theorem hasCol_any {w : World} {B : Nat} {v : Value} {l : List Nat} (h : w.ownsRow B 215 1 v l.length (colCells l)) (hl : l.length ≤ 1000) (c : Nat) :
    Calls Tryz.prog 168 #[v, .int .i64 (c : Int)] w fun e w' => e = .returned (.bool (Pq.hasC l c)) ∧ w = w' := by
  rcases own_form h with ⟨rfl, h0⟩ | ⟨g, cap, rfl⟩
  · have HR : Hid (Pq.hasC l c = false) := Pq.hasC_false (fun j hj => by omega)
    clear h
    go_enter Tryz.func168, Tryz.ntmps168
    go_wp2
    refine wp_loop_rounds 1 ?_; rw [rounds_succ]
    go_wp2
    go_ret
    exact ⟨by rw [HR.out]; rfl, rfl⟩
  · have hc : ∀ (k : Nat) (hk : k < l.length), w.cell? ⟨g, k, none⟩ = some (.int .i64 (l[k] : Int)) := by
      intro k hk
      exact own_cells h k _ (by simp [colCells, hk])
    clear h
    have HC := hide hc
    clear hc
    go_enter Tryz.func168, Tryz.ntmps168
    go_wp2
    go_loop [5] (fun i => ∃ k : Nat, k ≤ l.length ∧ i = .int .i64 k ∧ Hid (∀ j (hj : j < l.length), j < k → l[j] ≠ c)) (fun i => l.length - (intOf i).toNat)
    case atStart => exact ⟨0, by omega, rfl, fun j hj h => by omega⟩
    case round =>
      obtain ⟨k, hk, rfl, HN⟩ := hrel
      by_cases hlt : k < l.length
      · have hck := HC.out k hlt
        by_cases he : l[k] = c
        · have he' : ((l[k] : Int) == (c : Int)) = true := by rw [he]; simp
          have HR := hide (Pq.hasC_true hlt he)
          clear he
          go_wp2
          go_ret
          exact ⟨by rw [HR.out]; rfl, rfl⟩
        · have he' : ((l[k] : Int) == (c : Int)) = false := by rw [beq_eq_false_iff_ne]; intro h'; exact he (by omega)
          have HE := hide he
          clear he
          go_wp2
          go_round
          case rel =>
            refine ⟨k + 1, by omega, by go_num, fun j hj hjk => ?_⟩
            rcases Nat.lt_or_eq_of_le (Nat.le_of_lt_succ hjk) with h' | h'
            · exact HN.out j hj h'
            · subst h'; exact HE.out
          case measure => simp [intOf]; omega
      · have HR : Hid (Pq.hasC l c = false) := Pq.hasC_false (fun j hj => HN.out j hj (by omega))
        go_wp2
        go_ret
        exact ⟨by rw [HR.out]; rfl, rfl⟩
set_option maxHeartbeats 400000 in
theorem hasKey_any {w : World} {B : Nat} {v : Value} {l : List (Nat × Bool)} (h : w.ownsRow B 253 2 v l.length (keyCells l)) (hl : l.length ≤ 1000) (c : Nat) :
    Calls Tryz.prog 170 #[v, .int .i64 (c : Int)] w fun e w' => e = .returned (.bool (Pq.hasK l c)) ∧ w = w' := by
  rcases own_form h with ⟨rfl, h0⟩ | ⟨g, cap, rfl⟩
  · have HR : Hid (Pq.hasK l c = false) := Pq.hasK_false (fun j hj => by omega)
    clear h
    go_enter Tryz.func170, Tryz.ntmps170
    go_wp2
    refine wp_loop_rounds 1 ?_; rw [rounds_succ]
    go_wp2
    go_ret
    exact ⟨by rw [HR.out]; rfl, rfl⟩
  · have hc : ∀ (k : Nat) (hk : k < l.length), w.cell? ⟨g, k * 2, none⟩ = some (.int .i64 (l[k].1 : Int)) := by
      intro k hk
      exact own_cells h (k * 2) _ (keyCells_get l k hk).1
    clear h
    have HC := hide hc
    clear hc
    go_enter Tryz.func170, Tryz.ntmps170
    go_wp2
    go_loop [5] (fun i => ∃ k : Nat, k ≤ l.length ∧ i = .int .i64 k ∧ Hid (∀ j (hj : j < l.length), j < k → l[j].1 ≠ c)) (fun i => l.length - (intOf i).toNat)
    case atStart => exact ⟨0, by omega, rfl, fun j hj h => by omega⟩
    case round =>
      obtain ⟨k, hk, rfl, HN⟩ := hrel
      by_cases hlt : k < l.length
      · have hck := HC.out k hlt
        by_cases he : l[k].1 = c
        · have he' : ((l[k].1 : Int) == (c : Int)) = true := by rw [he]; simp
          have HR := hide (Pq.hasK_true hlt he)
          clear he
          go_wp2
          go_ret
          exact ⟨by rw [HR.out]; rfl, rfl⟩
        · have he' : ((l[k].1 : Int) == (c : Int)) = false := by rw [beq_eq_false_iff_ne]; intro h'; exact he (by omega)
          have HE := hide he
          clear he
          go_wp2
          go_round
          case rel =>
            refine ⟨k + 1, by omega, by go_num, fun j hj hjk => ?_⟩
            rcases Nat.lt_or_eq_of_le (Nat.le_of_lt_succ hjk) with h' | h'
            · exact HN.out j hj h'
            · subst h'; exact HE.out
          case measure => simp [intOf]; omega
      · have HR : Hid (Pq.hasK l c = false) := Pq.hasK_false (fun j hj => HN.out j hj (by omega))
        go_wp2
        go_ret
        exact ⟨by rw [HR.out]; rfl, rfl⟩
end Go.Proofs.YtcoofnhdbejnpaaGreatDoor

/- Package queries: readBy. -/
namespace Go.Proofs.YtcoofnhdbejnpaaGreatDoor
open Go.RowKit
theorem PIn.cells3 {w : World} {b g cap len : Nat} {toks : List Pq.Tok} {vb vk vf : Value} {s : Pq.PS} (h : PIn w b g cap len toks vb vk vf s) : w.cell? ⟨b, 4, none⟩ = some vb ∧ w.cell? ⟨b, 5, none⟩ = some vk ∧ w.cell? ⟨b, 6, none⟩ = some vf := by
  simp [World.cell?, h.blk, psCells]
theorem PAl.pushBy {w : World} {B b g cap len : Nat} {toks : List Pq.Tok} {vb vk vf : Value} {s : Pq.PS} (h : PAl w B b g cap len toks vb vk vf s) (o : Obj) {w5 : World} {g1 cap1 : Nat} (x : Nat) (hown : w5.ownsRow B 215 1 (.slice (some ⟨g1, 0, none⟩) (s.by'.length + 1) cap1) (s.by'.length + 1) (colCells s.by' ++ [.int .i64 (x : Int)]))
    (hgrow : (w.alloc o).drew.grownBy w5 vb.ownBlock) (hl : s.by'.length ≤ s.next) (hBs : B ≤ w.heap.size) :
    PIn w5 b g cap len toks vb vk vf s ∧ PAl (w5.setCell ⟨b, 4, none⟩ (.slice (some ⟨g1, 0, none⟩) (s.by'.length + 1) cap1)) B b g cap len toks (.slice (some ⟨g1, 0, none⟩) (s.by'.length + 1) cap1) vk vf { s with by' := s.by' ++ [x] } ∧ Below B w (w5.setCell ⟨b, 4, none⟩ (.slice (some ⟨g1, 0, none⟩) (s.by'.length + 1) cap1)) := by
  have ha := (h.pin.alloc o).drew
  have hnb := own_ne h.oby h.pin.blk (by decide)
  obtain ⟨cur, hgc, _⟩ := h.pin.row
  have hng := own_ne h.oby hgc (by decide)
  have p5 : PIn w5 b g cap len toks vb vk vf s := ha.congr (hgrow.block b ha.lt.1 (Ne.symm hnb)) (hgrow.block g ha.lt.2 (Ne.symm hng))
  have p6 : PIn (w5.setCell ⟨b, 4, none⟩ (.slice (some ⟨g1, 0, none⟩) (s.by'.length + 1) cap1)) b g cap len toks (.slice (some ⟨g1, 0, none⟩) (s.by'.length + 1) cap1) vk vf { s with by' := s.by' ++ [x] } := p5.set 4 _ _ _ _ _ (by simp [psCells]) p5.le
  have G6 : Gb b w5 (w5.setCell ⟨b, 4, none⟩ (.slice (some ⟨g1, 0, none⟩) (s.by'.length + 1) cap1)) := (Gb.refl b w5).set _ _
  have kokey := own_Gb ((h.okey.alloc o).drew.kept hgrow (own_sep h.okey h.oby (by decide))) p5.blk (by decide) G6
  have kofun := own_Gb ((h.ofun.alloc o).drew.kept hgrow (own_sep h.ofun h.oby (by decide))) p5.blk (by decide) G6
  refine ⟨p5, ?_, ?_⟩
  · refine ⟨p6, ?_, ?_, ?_, ?_, ?_, ?_, h.hB⟩
    · have := own_Gb hown p5.blk (by decide) G6
      simpa [colCells] using this
    · exact kokey
    · exact kofun
    · simp only [List.length_append, List.length_cons, List.length_nil]; omega
    · exact h.lkey
    · exact h.lfun
  · exact (((Below.refl B w).alloc hBs o).drew.grown hgrow (by simp; omega) (fun k hk => (own_block h.oby hk).elim fun _ hx => hx.2)).setCell h.hB _

theorem PAl.pushKey {w : World} {B b g cap len : Nat} {toks : List Pq.Tok} {vb vk vf : Value} {s : Pq.PS} (h : PAl w B b g cap len toks vb vk vf s) (o : Obj) {w5 : World} {g1 cap1 : Nat} (x : Nat × Bool) (hown : w5.ownsRow B 253 2 (.slice (some ⟨g1, 0, none⟩) (s.keys.length + 1) cap1) (s.keys.length + 1) (keyCells s.keys ++ [.int .i64 (x.1 : Int), .bool x.2]))
    (hgrow : (w.alloc o).drew.grownBy w5 vk.ownBlock) (hl : s.keys.length ≤ s.next) (hBs : B ≤ w.heap.size) :
    PIn w5 b g cap len toks vb vk vf s ∧ PAl (w5.setCell ⟨b, 5, none⟩ (.slice (some ⟨g1, 0, none⟩) (s.keys.length + 1) cap1)) B b g cap len toks vb (.slice (some ⟨g1, 0, none⟩) (s.keys.length + 1) cap1) vf { s with keys := s.keys ++ [x] } ∧ Below B w (w5.setCell ⟨b, 5, none⟩ (.slice (some ⟨g1, 0, none⟩) (s.keys.length + 1) cap1)) := by
  have ha := (h.pin.alloc o).drew
  have hnb := own_ne h.okey h.pin.blk (by decide)
  obtain ⟨cur, hgc, _⟩ := h.pin.row
  have hng := own_ne h.okey hgc (by decide)
  have p5 : PIn w5 b g cap len toks vb vk vf s := ha.congr (hgrow.block b ha.lt.1 (Ne.symm hnb)) (hgrow.block g ha.lt.2 (Ne.symm hng))
  have p6 : PIn (w5.setCell ⟨b, 5, none⟩ (.slice (some ⟨g1, 0, none⟩) (s.keys.length + 1) cap1)) b g cap len toks vb (.slice (some ⟨g1, 0, none⟩) (s.keys.length + 1) cap1) vf { s with keys := s.keys ++ [x] } := p5.set 5 _ _ _ _ _ (by simp [psCells]) p5.le
  have G6 : Gb b w5 (w5.setCell ⟨b, 5, none⟩ (.slice (some ⟨g1, 0, none⟩) (s.keys.length + 1) cap1)) := (Gb.refl b w5).set _ _
  have koby := own_Gb ((h.oby.alloc o).drew.kept hgrow (own_sep h.oby h.okey (by decide))) p5.blk (by decide) G6
  have kofun := own_Gb ((h.ofun.alloc o).drew.kept hgrow (own_sep h.ofun h.okey (by decide))) p5.blk (by decide) G6
  refine ⟨p5, ?_, ?_⟩
  · refine ⟨p6, ?_, ?_, ?_, ?_, ?_, ?_, h.hB⟩
    · exact koby
    · have := own_Gb hown p5.blk (by decide) G6
      simpa [keyCells] using this
    · exact kofun
    · exact h.lby
    · simp only [List.length_append, List.length_cons, List.length_nil]; omega
    · exact h.lfun
  · exact (((Below.refl B w).alloc hBs o).drew.grown hgrow (by simp; omega) (fun k hk => (own_block h.okey hk).elim fun _ hx => hx.2)).setCell h.hB _

theorem PAl.pushFun {w : World} {B b g cap len : Nat} {toks : List Pq.Tok} {vb vk vf : Value} {s : Pq.PS} (h : PAl w B b g cap len toks vb vk vf s) (o : Obj) {w5 : World} {g1 cap1 : Nat} (x : Pq.Fn) (hown : w5.ownsRow B 223 9 (.slice (some ⟨g1, 0, none⟩) (s.funcs.length + 1) cap1) (s.funcs.length + 1) (fnCells s.funcs ++ fnCell x))
    (hgrow : (w.alloc o).drew.grownBy w5 vf.ownBlock) (hl : s.funcs.length ≤ s.next) (hBs : B ≤ w.heap.size) :
    PIn w5 b g cap len toks vb vk vf s ∧ PAl (w5.setCell ⟨b, 6, none⟩ (.slice (some ⟨g1, 0, none⟩) (s.funcs.length + 1) cap1)) B b g cap len toks vb vk (.slice (some ⟨g1, 0, none⟩) (s.funcs.length + 1) cap1) { s with funcs := s.funcs ++ [x] } ∧ Below B w (w5.setCell ⟨b, 6, none⟩ (.slice (some ⟨g1, 0, none⟩) (s.funcs.length + 1) cap1)) := by
  have ha := (h.pin.alloc o).drew
  have hnb := own_ne h.ofun h.pin.blk (by decide)
  obtain ⟨cur, hgc, _⟩ := h.pin.row
  have hng := own_ne h.ofun hgc (by decide)
  have p5 : PIn w5 b g cap len toks vb vk vf s := ha.congr (hgrow.block b ha.lt.1 (Ne.symm hnb)) (hgrow.block g ha.lt.2 (Ne.symm hng))
  have p6 : PIn (w5.setCell ⟨b, 6, none⟩ (.slice (some ⟨g1, 0, none⟩) (s.funcs.length + 1) cap1)) b g cap len toks vb vk (.slice (some ⟨g1, 0, none⟩) (s.funcs.length + 1) cap1) { s with funcs := s.funcs ++ [x] } := p5.set 6 _ _ _ _ _ (by simp [psCells]) p5.le
  have G6 : Gb b w5 (w5.setCell ⟨b, 6, none⟩ (.slice (some ⟨g1, 0, none⟩) (s.funcs.length + 1) cap1)) := (Gb.refl b w5).set _ _
  have koby := own_Gb ((h.oby.alloc o).drew.kept hgrow (own_sep h.oby h.ofun (by decide))) p5.blk (by decide) G6
  have kokey := own_Gb ((h.okey.alloc o).drew.kept hgrow (own_sep h.okey h.ofun (by decide))) p5.blk (by decide) G6
  refine ⟨p5, ?_, ?_⟩
  · refine ⟨p6, ?_, ?_, ?_, ?_, ?_, ?_, h.hB⟩
    · exact koby
    · exact kokey
    · have := own_Gb hown p5.blk (by decide) G6
      simpa [fnCells] using this
    · exact h.lby
    · exact h.lkey
    · simp only [List.length_append, List.length_cons, List.length_nil]; omega
  · exact (((Below.refl B w).alloc hBs o).drew.grown hgrow (by simp; omega) (fun k hk => (own_block h.ofun hk).elim fun _ hx => hx.2)).setCell h.hB _

/-- the place at which the parser in block b stands -/
def nextAt (w : World) (b : Nat) : Nat := match w.cell? ⟨b, 2, none⟩ with | some v => (intOf v).toNat | none => 0
theorem PIn.nextAt {w : World} {b g cap len : Nat} {toks : List Pq.Tok} {vb vk vf : Value} {s : Pq.PS} (h : PIn w b g cap len toks vb vk vf s) : nextAt w b = s.next := by unfold Go.Proofs.YtcoofnhdbejnpaaGreatDoor.nextAt; rw [h.cells.2.2.1]; simp [intOf]
/-- a measure for a loop that goes on while a token is taken -/
def moreM (n : Nat) : Value → Nat → Nat | .bool true, k => n + 1 - k | _, _ => 0
theorem grown_drew {w w' : World} {r : Option Nat} (h : w.grownBy w' r) : w.drew.grownBy w' r := ⟨h.os, h.tape, h.output, h.size, h.block⟩
end Go.Proofs.YtcoofnhdbejnpaaGreatDoor

/- Package queries: readBy. -/
namespace Go.Proofs.YtcoofnhdbejnpaaGreatDoor
open Go.RowKit
theorem infoCol : (Tryz.prog.info? 215).map (fun i => (i.zero, i.size, i.bytes)) = some (some (.int .i64 0), 1, 8) := by kernel_rfl
/-- 'how things stand in the round': mb: it goes on -/
def ByRel (R : Pq.PS → Pq.PS) (mb : Bool) (s0 s' : Pq.PS) : Prop := if mb then R s0 = R s' else R s0 = s'
set_option maxHeartbeats 1000000 in
theorem readBy_any {w : World} {B b g cap len : Nat} {toks : List Pq.Tok} {vb vk vf : Value} {s : Pq.PS} (h : PAl w B b g cap len toks vb vk vf s) (hl : s.by'.length ≤ s.next) :
    Calls Tryz.prog 125 #[.pointer (some ⟨b, 0, none⟩)] w fun e w' => e = .returned (.tuple #[]) ∧ (∃ vb vk vf, PAl w' B b g cap len toks vb vk vf (Pq.byR toks len s)) ∧ Below B w w' := by
  obtain ⟨i0, hi, hz0, hz1, hz2⟩ := info_parts infoCol
  have H := hide h
  have hl' := hide hl
  clear h hl
  go_enter Tryz.func125, Tryz.ntmps125
  go_wp2
  go_loopw [2] (fun m wr => ∃ (mb : Bool) (s' : Pq.PS) (vb' vk' vf' : Value), m = .bool mb ∧ Hid (PAl wr B b g cap len toks vb' vk' vf' s') ∧ Below B w wr ∧ Hid (ByRel (Pq.byR toks len) mb s s') ∧ Hid (mb = true → s'.by'.length ≤ s'.next)) (fun m wr => moreM toks.length m (nextAt wr b))
  case atStart => exact ⟨true, s, vb, vk, vf, rfl, H.out, Below.refl _ _, rfl, fun _ => hl'.out⟩
  case round =>
    obtain ⟨mb, s', vb', vk', vf', rfl, HA, hbel, HR, HLN⟩ := hrel
    cases mb
    · go_wp2
      go_end0
      have hr : Pq.byR toks len s = s' := HR.out
      rw [hr]
      exact ⟨rfl, ⟨_, _, _, HA.out⟩, hbel⟩
    · have hln := HLN.out rfl
      have hR' : Pq.byR toks len s = Pq.byR toks len s' := HR.out
      clear HLN HR
      have HR := hide hR'
      clear hR'
      go_wp2_with fail
      refine (place_any HA.out.pin).mono ?_
      rintro e w1 ⟨rfl, nq, rfl⟩
      have A1 := hide (HA.out.moved (HA.out.pin.drewN nq) ((Gb.refl b wr).drewN nq) rfl rfl rfl (Nat.le_refl _))
      have B1 : Below B w (wr.drewN nq) := below_drewN hbel nq
      generalize wr.drewN nq = w1 at *
      go_wp2_with fail
      refine (readCol_any A1.out.pin).mono ?_
      rintro e w2 ⟨rfl, h2, g2⟩
      have A2 := hide (A1.out.moved h2 g2 (Pq.same_oneOf _ _ _ _).by' (Pq.same_oneOf _ _ _ _).keys (Pq.same_oneOf _ _ _ _).funcs (Pq.oneOfS_next _ _ _ _))
      have B2 := B1.trans (g2.below A1.out.hB A1.out.pin.lt.1)
      clear h2 g2
      have ho2 : w2.ownsRow B 215 1 vb' s'.by'.length (colCells s'.by') := by have := A2.out.oby; rwa [(Pq.same_oneOf toks Pq.colTxt 3 s').by'] at this
      have d4 := A2.out.pin.cells3.1
      have hle2 := HA.out.pin.le
      have hbd2 := HA.out.pin.bd
      go_wp2_with fail
      refine (hasCol_any ho2 (by omega) _).mono ?_
      rintro e w2' ⟨rfl, rfl⟩
      have HS2 : Hid (Pq.byStep toks len s' = { Pq.byMark toks len s' with by' := s'.by' ++ [Pq.oneOfV toks Pq.colTxt 3 s'] }) := hide rfl
      have HN2 : Hid (s'.next ≤ (Pq.byMark toks len s').next) := Pq.byStep_next toks len s'
      have HM : Hid (Pq.byMark toks len s' = if Pq.hasC s'.by' (Pq.oneOfV toks Pq.colTxt 3 s') then Pq.twiceS (Pq.placeS toks len s') (Pq.oneOfS toks Pq.colTxt 3 s') else Pq.oneOfS toks Pq.colTxt 3 s') := hide rfl
      cases hC : Pq.hasC s'.by' (Pq.oneOfV toks Pq.colTxt 3 s')
      · have HM2 : Hid (Pq.byMark toks len s' = Pq.oneOfS toks Pq.colTxt 3 s') := by show _ = _; rw [HM.out, hC]; rfl
        rw [HM2.out] at HS2 HN2
        have HB : Hid ((Pq.oneOfS toks Pq.colTxt 3 s').by' = s'.by') := (Pq.same_oneOf toks Pq.colTxt 3 s').by'
        have A3 := A2
        have B3 := B2
        clear ho2 d4 HM HM2
        generalize Pq.oneOfS toks Pq.colTxt 3 s' = sm at *
        generalize Pq.oneOfV toks Pq.colTxt 3 s' = cc at *
        have HST : Hid (Pq.byStep toks len s' = { sm with by' := sm.by' ++ [cc] }) := by show _ = _; rw [HS2.out, HB.out]
        have HSN := HN2
        clear HS2 A2 B2 HN2
        generalize w2 = w3 at *
        have hsn := HSN.out
        have hBs := A3.out.pin.lt.1
        have hB3 : B ≤ w3.heap.size := by have := A3.out.hB; omega
        have hown3 := A3.out.oby
        have d4 := A3.out.pin.cells3.1
        have hle3 := A3.out.pin.le
        have hbd3 := A3.out.pin.bd
        have hl3 : sm.by'.length ≤ sm.next := by rw [HB.out]; omega
        go_wp2_with (first | (at_builtin; refine wpList_append_lies _ rfl (.tmp 27) (.tmp 29) 108 rfl B 215 i0 _ 1 8 Tryz.underlying108 hi hz0 hz1 hz2 rfl (by decide) _ sm.by'.length (colCells sm.by') rfl (hown3.alloc _) _ 1 1 [.int .i64 (cc : Int)] rfl rfl (World.news_of_block (heap_alloc_new _ _)) (by intro u hu; simp at hu; subst hu; rfl) (by decide) (by unfold maxLen; omega) (by omega) (by simp; omega) _ rfl ?_; intro g5 cap5 w5 hown5 hgrow5 hat5 hlt5; obtain ⟨p5, A6, B6⟩ := A3.out.pushBy _ cc hown5 (grown_drew hgrow5) hl3 hB3; have d5 := p5.cells3.1; have z5 := p5.frozen 4; have HA6 := hide A6; have HB6 := hide B6; clear A6 B6 p5 hown5 hgrow5 hat5 hlt5) | (go_at_call 124; refine (take_any HA6.out.pin Pq.wComma).mono ?_; rintro e w7 ⟨rfl, h7, g7⟩; have H7 := hide (HA6.out.moved h7 g7 (Pq.same_take _ _ _).by' (Pq.same_take _ _ _).keys (Pq.same_take _ _ _).funcs (Pq.takeS_next _ _ _)); have B7 := (B3.trans HB6.out).trans (g7.below HA6.out.hB HA6.out.pin.lt.1); clear h7 g7))
        go_roundw
        case rel =>
          rw [← HST.out] at H7 ⊢
          cases ht : Pq.takes toks Pq.wComma (Pq.byStep toks len s')
          · rw [Pq.takeS_no ht] at H7
            refine ⟨false, _, _, _, _, rfl, H7.out, B7, ?_, fun h => by cases h⟩
            show _ = _
            rw [HR.out, Pq.byR_eq, dif_neg (by simp [ht])]
          · have e : Pq.takeS toks Pq.wComma (Pq.byStep toks len s') = (Pq.byStep toks len s').step := by simp [Pq.takeS, ht]
            rw [e] at H7
            refine ⟨true, _, _, _, _, rfl, H7.out, B7, ?_, fun _ => ?_⟩
            · show _ = _
              rw [HR.out, Pq.byR_eq, dif_pos ht]
            · rw [HST.out]; simp only [Pq.PS.step, List.length_append, List.length_cons, List.length_nil]; omega
        case measure =>
          have e1 := H7.out.pin.nextAt
          have e2 := HA.out.pin.nextAt
          have e3 := H7.out.pin.le
          have e4 := HA.out.pin.le
          have e5 := HSN.out
          clear H7 HA A3 HA6
          cases ht : Pq.takes toks Pq.wComma { sm with by' := sm.by' ++ [cc] }
          · simp [moreM, e2]; omega
          · simp only [Pq.takeS, ht, if_true, Pq.PS.step] at e1 e3
            simp [moreM, e1, e2]; omega

      · have HM2 : Hid (Pq.byMark toks len s' = Pq.twiceS (Pq.placeS toks len s') (Pq.oneOfS toks Pq.colTxt 3 s')) := by show _ = _; rw [HM.out, hC]; rfl
        rw [HM2.out] at HS2 HN2
        have HB : Hid ((Pq.twiceS (Pq.placeS toks len s') (Pq.oneOfS toks Pq.colTxt 3 s')).by' = s'.by') := ((Pq.same_oneOf toks Pq.colTxt 3 s').trans (Pq.same_twice _ _)).by'
        clear ho2 d4 HM HM2
        go_wp2_with fail
        refine (noteTwice_any A2.out.pin _).mono ?_
        rintro e w3 ⟨rfl, h3, g3⟩
        have A3 := hide (A2.out.moved h3 g3 (Pq.same_twice _ _).by' (Pq.same_twice _ _).keys (Pq.same_twice _ _).funcs (Nat.le_of_eq (Pq.twiceS_next _ _).symm))
        have B3 := B2.trans (g3.below A2.out.hB A2.out.pin.lt.1)
        clear h3 g3 A2 B2
        generalize Pq.twiceS (Pq.placeS toks len s') (Pq.oneOfS toks Pq.colTxt 3 s') = sm at *
        generalize Pq.oneOfV toks Pq.colTxt 3 s' = cc at *
        have HST : Hid (Pq.byStep toks len s' = { sm with by' := sm.by' ++ [cc] }) := by show _ = _; rw [HS2.out, HB.out]
        have HSN := HN2
        clear HS2 HN2
        have hsn := HSN.out
        have hBs := A3.out.pin.lt.1
        have hB3 : B ≤ w3.heap.size := by have := A3.out.hB; omega
        have hown3 := A3.out.oby
        have d4 := A3.out.pin.cells3.1
        have hle3 := A3.out.pin.le
        have hbd3 := A3.out.pin.bd
        have hl3 : sm.by'.length ≤ sm.next := by rw [HB.out]; omega
        go_wp2_with (first | (at_builtin; refine wpList_append_lies _ rfl (.tmp 27) (.tmp 29) 108 rfl B 215 i0 _ 1 8 Tryz.underlying108 hi hz0 hz1 hz2 rfl (by decide) _ sm.by'.length (colCells sm.by') rfl (hown3.alloc _) _ 1 1 [.int .i64 (cc : Int)] rfl rfl (World.news_of_block (heap_alloc_new _ _)) (by intro u hu; simp at hu; subst hu; rfl) (by decide) (by unfold maxLen; omega) (by omega) (by simp; omega) _ rfl ?_; intro g5 cap5 w5 hown5 hgrow5 hat5 hlt5; obtain ⟨p5, A6, B6⟩ := A3.out.pushBy _ cc hown5 (grown_drew hgrow5) hl3 hB3; have d5 := p5.cells3.1; have z5 := p5.frozen 4; have HA6 := hide A6; have HB6 := hide B6; clear A6 B6 p5 hown5 hgrow5 hat5 hlt5) | (go_at_call 124; refine (take_any HA6.out.pin Pq.wComma).mono ?_; rintro e w7 ⟨rfl, h7, g7⟩; have H7 := hide (HA6.out.moved h7 g7 (Pq.same_take _ _ _).by' (Pq.same_take _ _ _).keys (Pq.same_take _ _ _).funcs (Pq.takeS_next _ _ _)); have B7 := (B3.trans HB6.out).trans (g7.below HA6.out.hB HA6.out.pin.lt.1); clear h7 g7))
        go_roundw
        case rel =>
          rw [← HST.out] at H7 ⊢
          cases ht : Pq.takes toks Pq.wComma (Pq.byStep toks len s')
          · rw [Pq.takeS_no ht] at H7
            refine ⟨false, _, _, _, _, rfl, H7.out, B7, ?_, fun h => by cases h⟩
            show _ = _
            rw [HR.out, Pq.byR_eq, dif_neg (by simp [ht])]
          · have e : Pq.takeS toks Pq.wComma (Pq.byStep toks len s') = (Pq.byStep toks len s').step := by simp [Pq.takeS, ht]
            rw [e] at H7
            refine ⟨true, _, _, _, _, rfl, H7.out, B7, ?_, fun _ => ?_⟩
            · show _ = _
              rw [HR.out, Pq.byR_eq, dif_pos ht]
            · rw [HST.out]; simp only [Pq.PS.step, List.length_append, List.length_cons, List.length_nil]; omega
        case measure =>
          have e1 := H7.out.pin.nextAt
          have e2 := HA.out.pin.nextAt
          have e3 := H7.out.pin.le
          have e4 := HA.out.pin.le
          have e5 := HSN.out
          clear H7 HA A3 HA6
          cases ht : Pq.takes toks Pq.wComma { sm with by' := sm.by' ++ [cc] }
          · simp [moreM, e2]; omega
          · simp only [Pq.takeS, ht, if_true, Pq.PS.step] at e1 e3
            simp [moreM, e1, e2]; omega
end Go.Proofs.YtcoofnhdbejnpaaGreatDoor

/- Package panesref: Tokens. -/
namespace Go.Proofs.YtcoofnhdbejnpaaGreatDoor
open Go.RowKit
theorem alloc_at {w : World} {o : Obj} {k : Nat} (h : w.heap.size = k) : (w.alloc o).heap[k]? = some o := by subst h; exact heap_alloc_new _ _
theorem RdS.new (w : World) (ws : List Pq.Bytes) : RdS (w.alloc (.cells (strCells ws).toArray 9 (0, 0))) (.slice (some ⟨w.heap.size, 0, none⟩) ws.length ws.length) ws :=
  .inr ⟨w.heap.size, 0, ws.length, _, rfl, Nat.le_refl _, heap_alloc_new _ _, fun j u hu => by simpa using hu⟩
theorem own_drewN {w : World} {base : Nat} {e : TypeId} {size : Nat} {v : Value} {n : Nat} {xs : List Value} (h : w.ownsRow base e size v n xs) (k : Nat) : (w.drewN k).ownsRow base e size v n xs := h
theorem below_drewN {B : Nat} {a w : World} (h : Below B a w) (k : Nat) : Below B a (w.drewN k) := ⟨h.os, h.tape, h.output, h.size, h.block⟩
end Go.Proofs.YtcoofnhdbejnpaaGreatDoor

/- Package panesref: parts, becomes. -/
namespace Go.Proofs.YtcoofnhdbejnpaaGreatDoor
open Go.RowKit
theorem RdS.at {w : World} {k : Nat} (h : w.heap.size = k) (ws : List Pq.Bytes) (cs : Array Value) (hc : cs = (strCells ws).toArray) : RdS (w.alloc (.cells cs 9 (0, 0))) (.slice (some ⟨k, 0, none⟩) ws.length ws.length) ws := by
  subst h; subst hc; exact RdS.new w ws
end Go.Proofs.YtcoofnhdbejnpaaGreatDoor

