/- Package queries: the parser's smallest steps. -/
import Derived.Test.YtcoofnhdbejnpaaDoorQb
import Derived.Deep.QuietTactic
import Derived.BigQuiet
namespace Go.Proofs.YtcoofnhdbejnpaaDoor
open Go.RowKit
/-- the parser's thirteen cells -/
def psCells (g n cap len : Nat) (vb vk vf : Value) (s : Pq.PS) : Array Value :=
  #[.slice (some ⟨g, 0, none⟩) n cap, .int .i64 (len : Int), .int .i64 (s.next : Int), .bool s.failed, vb, vk, vf, .bool s.hasTop, .int .i64 s.top, .int .i64 s.frm, .int .i64 s.many, .int .i64 s.twice, .int .i64 s.arg]
/-- what a token of digits is -/
def GoodTok (t : Pq.Tok) : Prop := t.num = true → t.text.length ≤ 2 ∧ ∀ c ∈ t.text, Pq.isDig c = true
/-- the parser lies in block b, its tokens in block g -/
structure PIn (w : World) (b g cap len : Nat) (toks : List Pq.Tok) (vb vk vf : Value) (s : Pq.PS) : Prop where
  blk : w.heap[b]? = some (.cells (psCells g toks.length cap len vb vk vf s) 86 (0, 0))
  row : ∃ cur, w.heap[g]? = some (.cells cur 104 (0, 0)) ∧ ∀ (j : Nat) (u : Value), (toksCells toks)[j]? = some u → cur[j]? = some u
  le : s.next ≤ toks.length
  bd : toks.length ≤ 300
  good : ∀ t ∈ toks, GoodTok t
theorem PIn.cells {w : World} {b g cap len : Nat} {toks : List Pq.Tok} {vb vk vf : Value} {s : Pq.PS} (h : PIn w b g cap len toks vb vk vf s) :
    w.cell? ⟨b, 0, none⟩ = some (.slice (some ⟨g, 0, none⟩) toks.length cap) ∧ w.cell? ⟨b, 1, none⟩ = some (.int .i64 (len : Int)) ∧ w.cell? ⟨b, 2, none⟩ = some (.int .i64 (s.next : Int)) ∧ w.cell? ⟨b, 3, none⟩ = some (.bool s.failed) := by
  simp [World.cell?, h.blk, psCells]
theorem PIn.frozen {w : World} {b g cap len : Nat} {toks : List Pq.Tok} {vb vk vf : Value} {s : Pq.PS} (h : PIn w b g cap len toks vb vk vf s) (j : Nat) : w.frozen? ⟨b, j, none⟩ = false := by
  simp [World.frozen?, h.blk]
theorem toksCells_get : ∀ (ts : List Pq.Tok) (n : Nat) (h : n < ts.length), (toksCells ts)[n * 3]? = some (.string ⟨ts[n].text.toArray⟩) ∧ (toksCells ts)[n * 3 + 1]? = some (.int .i64 (ts[n].at' : Int)) ∧ (toksCells ts)[n * 3 + 2]? = some (.bool ts[n].num)
  | [], _, h => by simp at h
  | t :: ts, 0, _ => by simp [toksCells, tokCells]
  | t :: ts, n + 1, h => by
    have ih := toksCells_get ts n (by simpa using h)
    have e1 : (n + 1) * 3 = n * 3 + 3 := by omega
    simp only [toksCells, List.flatMap_cons, List.getElem_cons_succ] at ih ⊢
    have e : (tokCells t).length = 3 := rfl
    rw [e1, List.getElem?_append_right (by omega), List.getElem?_append_right (by omega), List.getElem?_append_right (by omega), e]
    have a1 : n * 3 + 3 - 3 = n * 3 := by omega
    have a2 : n * 3 + 3 + 1 - 3 = n * 3 + 1 := by omega
    have a3 : n * 3 + 3 + 2 - 3 = n * 3 + 2 := by omega
    rw [a1, a2, a3]
    exact ih
theorem PIn.tok {w : World} {b g cap len : Nat} {toks : List Pq.Tok} {vb vk vf : Value} {s : Pq.PS} (h : PIn w b g cap len toks vb vk vf s) (n : Nat) (hn : n < toks.length) :
    w.cell? ⟨g, n * 3, none⟩ = some (.string ⟨toks[n].text.toArray⟩) ∧ w.cell? ⟨g, n * 3 + 1, none⟩ = some (.int .i64 (toks[n].at' : Int)) ∧ w.cell? ⟨g, n * 3 + 2, none⟩ = some (.bool toks[n].num) := by
  obtain ⟨cur, hg, hc⟩ := h.row
  obtain ⟨h0, h1, h2⟩ := toksCells_get toks n hn
  simp only [World.cell?, hg]
  exact ⟨hc _ _ h0, hc _ _ h1, hc _ _ h2⟩
theorem PIn.congr {w w' : World} {b g cap len : Nat} {toks : List Pq.Tok} {vb vk vf : Value} {s : Pq.PS} (h : PIn w b g cap len toks vb vk vf s) (hb : w'.heap[b]? = w.heap[b]?) (hg : w'.heap[g]? = w.heap[g]?) : PIn w' b g cap len toks vb vk vf s :=
  ⟨by rw [hb]; exact h.blk, by rw [hg]; exact h.row, h.le, h.bd, h.good⟩
theorem PIn.drewN {w : World} {b g cap len : Nat} {toks : List Pq.Tok} {vb vk vf : Value} {s : Pq.PS} (h : PIn w b g cap len toks vb vk vf s) (n : Nat) : PIn (w.drewN n) b g cap len toks vb vk vf s := h.congr rfl rfl
theorem PIn.drew {w : World} {b g cap len : Nat} {toks : List Pq.Tok} {vb vk vf : Value} {s : Pq.PS} (h : PIn w b g cap len toks vb vk vf s) : PIn w.drew b g cap len toks vb vk vf s := h.congr rfl rfl
theorem PIn.ne {w : World} {b g cap len : Nat} {toks : List Pq.Tok} {vb vk vf : Value} {s : Pq.PS} (h : PIn w b g cap len toks vb vk vf s) : g ≠ b := by
  intro e
  obtain ⟨cur, hg, _⟩ := h.row
  rw [e, h.blk] at hg
  simp at hg
/-- a store into the parser's block -/
theorem PIn.set {w : World} {b g cap len : Nat} {toks : List Pq.Tok} {vb vk vf : Value} {s : Pq.PS} (h : PIn w b g cap len toks vb vk vf s) (j : Nat) (v : Value) (s' : Pq.PS) (vb' vk' vf' : Value) (hc : (psCells g toks.length cap len vb vk vf s).setIfInBounds j v = psCells g toks.length cap len vb' vk' vf' s') (hl : s'.next ≤ toks.length) :
    PIn (w.setCell ⟨b, j, none⟩ v) b g cap len toks vb' vk' vf' s' := by
  refine ⟨?_, ?_, hl, h.bd, h.good⟩
  · simp [World.setCell, Array.getElem?_modify, h.blk, hc]
  · rw [Below.heap_setCell _ _ _ _ h.ne]; exact h.row
theorem PIn.step {w : World} {b g cap len : Nat} {toks : List Pq.Tok} {vb vk vf : Value} {s : Pq.PS} (h : PIn w b g cap len toks vb vk vf s) (hn : s.next < toks.length) : PIn (w.setCell ⟨b, 2, none⟩ (.int .i64 ((s.next : Int) + 1))) b g cap len toks vb vk vf s.step :=
  h.set 2 _ _ _ _ _ (by simp [psCells, Pq.PS.step]) hn
theorem PIn.fail {w : World} {b g cap len : Nat} {toks : List Pq.Tok} {vb vk vf : Value} {s : Pq.PS} (h : PIn w b g cap len toks vb vk vf s) : PIn (w.setCell ⟨b, 3, none⟩ (.bool true)) b g cap len toks vb vk vf s.fail :=
  h.set 3 _ _ _ _ _ (by simp [psCells, Pq.PS.fail]) h.le
/-- only block b has turned, and new blocks have come -/
def Gb (b : Nat) (w w' : World) : Prop := w.grownBy w' (some b)
theorem Gb.refl (b : Nat) (w : World) : Gb b w w := ⟨rfl, rfl, rfl, Nat.le_refl _, fun _ _ _ => rfl⟩
theorem Gb.trans {b : Nat} {w1 w2 w3 : World} (h : Gb b w1 w2) (k : Gb b w2 w3) : Gb b w1 w3 :=
  ⟨k.os.trans h.os, k.tape.trans h.tape, k.output.trans h.output, Nat.le_trans h.size k.size, fun i hi hn => (k.block i (Nat.lt_of_lt_of_le hi h.size) hn).trans (h.block i hi hn)⟩
theorem Gb.drewN {b : Nat} {w w' : World} (h : Gb b w w') (n : Nat) : Gb b w (w'.drewN n) := h.trans ⟨rfl, rfl, rfl, Nat.le_refl _, fun _ _ _ => rfl⟩
theorem Gb.drew {b : Nat} {w w' : World} (h : Gb b w w') : Gb b w w'.drew := h.trans ⟨rfl, rfl, rfl, Nat.le_refl _, fun _ _ _ => rfl⟩
theorem Gb.set {b : Nat} {w w' : World} (h : Gb b w w') (j : Nat) (v : Value) : Gb b w (w'.setCell ⟨b, j, none⟩ v) :=
  h.trans ⟨rfl, rfl, rfl, by simp [World.setCell], fun k _ hn => Below.heap_setCell _ _ _ _ (by simpa using hn)⟩
theorem Gb.alloc {b : Nat} {w w' : World} (h : Gb b w w') (o : Obj) : Gb b w (w'.alloc o) := h.trans (World.grownBy_alloc _ _ _)
set_option maxHeartbeats 400000 in
theorem place_any {w : World} {b g cap len : Nat} {toks : List Pq.Tok} {vb vk vf : Value} {s : Pq.PS} (h : PIn w b g cap len toks vb vk vf s) :
    Calls Tryd.prog 48 #[.pointer (some ⟨b, 0, none⟩)] w fun e w' => e = .returned (.int .i64 (Pq.placeS toks len s)) ∧ ∃ n, w' = w.drewN n := by
  obtain ⟨c0, c1, c2, c3⟩ := h.cells
  have hle := h.le
  have hbd := h.bd
  by_cases hlt : s.next < toks.length
  · obtain ⟨t0, t1, t2⟩ := h.tok s.next hlt
    have HP : Hid (Pq.placeS toks len s = (toks[s.next].at' : Int)) := by show _ = _; simp [Pq.placeS, hlt]
    clear h
    go_enter Tryd.func48, Tryd.ntmps48
    go_wp2
    go_quiet (fail)
    go_wp2
    go_quiet (fail)
    go_wp2
    go_ret
    refine ⟨by rw [HP.out]; rfl, ?_⟩
    exact ⟨_, World.drewN_drewN _ _ _⟩
  · have HP : Hid (Pq.placeS toks len s = (len : Int)) := by show _ = _; simp [Pq.placeS, show toks.length ≤ s.next by omega]
    clear h
    go_enter Tryd.func48, Tryd.ntmps48
    go_wp2
    go_quiet (fail)
    go_wp2
    go_ret
    exact ⟨by rw [HP.out]; rfl, _, rfl⟩
set_option maxHeartbeats 400000 in
theorem take_any {w : World} {b g cap len : Nat} {toks : List Pq.Tok} {vb vk vf : Value} {s : Pq.PS} (h : PIn w b g cap len toks vb vk vf s) (t : Pq.Bytes) :
    Calls Tryd.prog 41 #[.pointer (some ⟨b, 0, none⟩), .string ⟨t.toArray⟩] w fun e w' => e = .returned (.bool (Pq.takes toks t s)) ∧ PIn w' b g cap len toks vb vk vf (Pq.takeS toks t s) ∧ Gb b w w' := by
  have H := hide h
  obtain ⟨c0, c1, c2, c3⟩ := h.cells
  have hle := h.le
  have hbd := h.bd
  have hfz := h.frozen 2
  cases hf : s.failed
  · by_cases hn : s.next < toks.length
    · obtain ⟨t0, t1, t2⟩ := h.tok s.next hn
      clear h
      have HT : Hid (Pq.takes toks t s = (toks[s.next].text == t)) := by show _ = _; simp [Pq.takes, hf, hn]
      rw [hf] at c3
      go_enter Tryd.func41, Tryd.ntmps41
      go_wp2
      go_quiet (fail)
      go_wp2
      go_quiet (fail)
      go_wp2
      · go_ret
        have hr : Pq.takes toks t s = false := by rw [HT.out]; simpa using ‹(!toks[s.next].text == t) = true›
        unfold Pq.takeS
        rw [hr]
        exact ⟨rfl, (H.out.drewN _).drewN _, ((Gb.refl _ _).drewN _).drewN _⟩
      · go_ret
        have hr : Pq.takes toks t s = true := by rw [HT.out]; simpa using ‹(!toks[s.next].text == t) = false›
        unfold Pq.takeS
        rw [hr]
        exact ⟨rfl, (H.out.drewN _).step hn, ((Gb.refl _ _).drewN _).set _ _⟩
    · clear h
      have HT : Hid (Pq.takes toks t s = false) := by show _ = _; simp [Pq.takes, show toks.length ≤ s.next by omega]
      rw [hf] at c3
      go_enter Tryd.func41, Tryd.ntmps41
      go_wp2
      go_quiet (fail)
      go_wp2
      go_ret
      unfold Pq.takeS
      rw [HT.out]
      exact ⟨rfl, H.out.drewN _, (Gb.refl _ _).drewN _⟩
  · clear h
    have HT : Hid (Pq.takes toks t s = false) := by show _ = _; simp [Pq.takes, hf]
    rw [hf] at c3
    go_enter Tryd.func41, Tryd.ntmps41
    go_wp2
    go_quiet (fail)
    go_wp2
    go_ret
    unfold Pq.takeS
    rw [HT.out]
    exact ⟨rfl, H.out.drewN _, (Gb.refl _ _).drewN _⟩
theorem Pq.takeS_no {toks : List Pq.Tok} {t : Pq.Bytes} {s : Pq.PS} (h : Pq.takes toks t s = false) : Pq.takeS toks t s = s := by simp [Pq.takeS, h]
set_option maxHeartbeats 400000 in
theorem want_any {w : World} {b g cap len : Nat} {toks : List Pq.Tok} {vb vk vf : Value} {s : Pq.PS} (h : PIn w b g cap len toks vb vk vf s) (t : Pq.Bytes) :
    Calls Tryd.prog 43 #[.pointer (some ⟨b, 0, none⟩), .string ⟨t.toArray⟩] w fun e w' => e = .returned (.tuple #[]) ∧ PIn w' b g cap len toks vb vk vf (Pq.wantS toks t s) ∧ Gb b w w' := by
  have H := hide h
  clear h
  cases ht : Pq.takes toks t s
  · have HW : Hid (Pq.wantS toks t s = (Pq.takeS toks t s).fail) := by show _ = _; simp [Pq.wantS, Pq.takeS, ht]
    go_enter Tryd.func43, Tryd.ntmps43
    go_wp2_with fail
    refine (take_any H.out t).mono ?_
    rintro e w1 ⟨rfl, h1, hg1⟩
    have hfz := h1.frozen 3
    have hc3 := h1.cells.2.2.2
    have H1 := hide h1
    clear h1
    go_wp2
    go_end0
    rw [HW.out]
    exact ⟨rfl, H1.out.fail, hg1.set _ _⟩
  · have HW : Hid (Pq.wantS toks t s = Pq.takeS toks t s) := by show _ = _; simp [Pq.wantS, Pq.takeS, ht]
    go_enter Tryd.func43, Tryd.ntmps43
    go_wp2_with fail
    refine (take_any H.out t).mono ?_
    rintro e w1 ⟨rfl, h1, hg1⟩
    have H1 := hide h1
    clear h1
    go_wp2
    go_end0
    rw [HW.out]
    exact ⟨rfl, H1.out, hg1⟩
end Go.Proofs.YtcoofnhdbejnpaaDoor
