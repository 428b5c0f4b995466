/- Package panesref: its leaves. -/
import Derived.Test.YtcoofnhdbejnpaaGreatDoorG01
import Derived.Test.YtcoofnhdbejnpaaGreatDoorG13
import Derived.Test.YtcoofnhdbejnpaaGreatDoorG00
namespace Go.Proofs.YtcoofnhdbejnpaaGreatDoor
open Go.RowKit
/-- texts as cells -/
def strCells (ws : List Pq.Bytes) : List Value := ws.map (fun t => .string ⟨t.toArray⟩)
/-- a list of texts can be read behind a slice -/
def RdS (w : World) (v : Value) (ws : List Pq.Bytes) : Prop :=
  (v = .slice none 0 0 ∧ ws = []) ∨ ∃ g off cap cur, v = .slice (some ⟨g, off, none⟩) ws.length cap ∧ ws.length ≤ cap ∧ w.heap[g]? = some (.cells cur 9 (0, 0)) ∧ ∀ (j : Nat) (u : Value), (strCells ws)[j]? = some u → cur[off + j]? = some u
theorem RdS.cell {w : World} {g off n cap : Nat} {ws : List Pq.Bytes} (h : RdS w (.slice (some ⟨g, off, none⟩) n cap) ws) (j : Nat) (hj : j < ws.length) : w.cell? ⟨g, off + j, none⟩ = some (.string ⟨ws[j].toArray⟩) := by
  rcases h with ⟨h, _⟩ | ⟨g', off', cap', cur, h, _, hg, hc⟩
  · cases h
  · cases h
    simp only [World.cell?, hg]
    exact hc j _ (by simp [strCells, hj])
end Go.Proofs.YtcoofnhdbejnpaaGreatDoor

/- Package queries: numbers. -/
namespace Go.Proofs.YtcoofnhdbejnpaaGreatDoor
open Go.RowKit
set_option maxHeartbeats 400000 in
theorem readFuncKind_any {w : World} {b g cap len : Nat} {toks : List Pq.Tok} {vb vk vf : Value} {s : Pq.PS} (h : PIn w b g cap len toks vb vk vf s) :
    Calls Tryz.prog 193 #[.pointer (some ⟨b, 0, none⟩)] w fun e w' => e = .returned (.int .i64 (Pq.oneOfV toks Pq.kindTxt 12 s : Nat)) ∧ PIn w' b g cap len toks vb vk vf (Pq.oneOfS toks Pq.kindTxt 12 s) ∧ Gb b w w' := by
  have H := hide h
  clear h
  go_enter Tryz.func193, Tryz.ntmps193
  go_wp2
  go_loopw [3] (fun i wr => ∃ k : Nat, k ≤ 12 ∧ i = .int .i64 k ∧ Hid (PIn wr b g cap len toks vb vk vf s ∧ Gb b w wr ∧ ∀ j, j < k → Pq.takes toks (Pq.kindTxt j) s = false)) (fun i _ => 12 - (intOf i).toNat)
  case atStart => exact ⟨0, by omega, rfl, H.out, Gb.refl _ _, fun j hj => by omega⟩
  case round =>
    obtain ⟨k, hk, rfl, HR⟩ := hrel
    by_cases hlt : k < 12
    · cases ht : Pq.takes toks (Pq.kindTxt k) s
      · go_wp2_with (first | (go_at_call 212; refine (kindName_any k hlt _).mono ?_; rintro e w' ⟨rfl, rfl⟩) | (go_at_call 124; refine (take_any HR.out.1 _).mono ?_; rintro e w1 ⟨rfl, h1, g1⟩; have H1 := hide h1; clear h1))
        go_roundw
        case rel =>
          refine ⟨k + 1, by omega, by go_num, by have := H1.out; rwa [Pq.takeS_no ht] at this, HR.out.2.1.trans g1, fun j hj => ?_⟩
          rcases Nat.lt_or_eq_of_le (Nat.le_of_lt_succ hj) with hj | rfl
          · exact HR.out.2.2 j hj
          · exact ht
        case measure => simp [intOf]; omega
      · have HF := hide (Pq.firstTake_some hlt HR.out.2.2 ht)
        go_wp2_with (first | (go_at_call 212; refine (kindName_any k hlt _).mono ?_; rintro e w' ⟨rfl, rfl⟩) | (go_at_call 124; refine (take_any HR.out.1 _).mono ?_; rintro e w1 ⟨rfl, h1, g1⟩; have H1 := hide h1; clear h1))
        go_ret
        unfold Pq.oneOfV Pq.oneOfS
        rw [HF.out]
        exact ⟨rfl, by have := H1.out; simpa [Pq.takeS, ht] using this, HR.out.2.1.trans g1⟩
    · have hk3 : k = 12 := by omega
      have HF := hide (Pq.firstTake_none (n := 12) (fun j hj => HR.out.2.2 j (by omega)))
      have hfz := HR.out.1.frozen 3
      have hc3 := HR.out.1.cells.2.2.2
      clear hk3
      go_wp2
      go_ret
      unfold Pq.oneOfV Pq.oneOfS
      rw [HF.out]
      exact ⟨rfl, HR.out.1.fail, HR.out.2.1.set _ _⟩

theorem PIn.cells2 {w : World} {b g cap len : Nat} {toks : List Pq.Tok} {vb vk vf : Value} {s : Pq.PS} (h : PIn w b g cap len toks vb vk vf s) : w.cell? ⟨b, 10, none⟩ = some (.int .i64 s.many) ∧ w.cell? ⟨b, 11, none⟩ = some (.int .i64 s.twice) ∧ w.cell? ⟨b, 12, none⟩ = some (.int .i64 s.arg) := by
  simp [World.cell?, h.blk, psCells]
set_option maxHeartbeats 400000 in
theorem wantEnd_any {w : World} {b g cap len : Nat} {toks : List Pq.Tok} {vb vk vf : Value} {s : Pq.PS} (h : PIn w b g cap len toks vb vk vf s) :
    Calls Tryz.prog 130 #[.pointer (some ⟨b, 0, none⟩)] w fun e w' => e = .returned (.tuple #[]) ∧ PIn w' b g cap len toks vb vk vf (Pq.endS toks s) ∧ Gb b w w' := by
  have H := hide h
  obtain ⟨c0, c1, c2, c3⟩ := h.cells
  have hle := h.le
  have hbd := h.bd
  have hfz := h.frozen 3
  clear h
  by_cases hn : s.next < toks.length
  · have HE : Hid (Pq.endS toks s = s.fail) := by show _ = _; simp [Pq.endS, hn]
    go_enter Tryz.func130, Tryz.ntmps130
    go_wp2
    go_quiet (fail)
    go_wp2
    go_end0
    rw [HE.out]
    exact ⟨rfl, (H.out.drewN _).fail, ((Gb.refl _ _).drewN _).set _ _⟩
  · have HE : Hid (Pq.endS toks s = s) := by show _ = _; simp [Pq.endS, hn]
    go_enter Tryz.func130, Tryz.ntmps130
    go_wp2
    go_quiet (fail)
    go_wp2
    go_end0
    rw [HE.out]
    exact ⟨rfl, H.out.drewN _, (Gb.refl _ _).drewN _⟩
set_option maxHeartbeats 400000 in
theorem noteTwice_any {w : World} {b g cap len : Nat} {toks : List Pq.Tok} {vb vk vf : Value} {s : Pq.PS} (h : PIn w b g cap len toks vb vk vf s) (n : Int) :
    Calls Tryz.prog 169 #[.pointer (some ⟨b, 0, none⟩), .int .i64 n] w fun e w' => e = .returned (.tuple #[]) ∧ PIn w' b g cap len toks vb vk vf (Pq.twiceS n s) ∧ Gb b w w' := by
  have H := hide h
  obtain ⟨d0, d1, d2⟩ := h.cells2
  have hfz := h.frozen 11
  clear h
  by_cases hn : s.twice = -1
  · have HE : Hid (Pq.twiceS n s = { s with twice := n }) := by show _ = _; simp [Pq.twiceS, hn]
    rw [hn] at d1
    have HN := hide hn
    clear hn
    go_enter Tryz.func169, Tryz.ntmps169
    go_wp2
    go_end0
    rw [HE.out]
    exact ⟨rfl, H.out.set 11 _ _ _ _ _ (by simp [psCells]) H.out.le, (Gb.refl _ _).set _ _⟩
  · have HE : Hid (Pq.twiceS n s = s) := by show _ = _; simp [Pq.twiceS, hn]
    have hb : (s.twice == -1) = false := by simpa using hn
    go_enter Tryz.func169, Tryz.ntmps169
    go_wp2
    go_end0
    rw [HE.out]
    exact ⟨rfl, H.out, Gb.refl _ _⟩
theorem cell_of_heap {w : World} {c : Nat} {cs : Array Value} {T : TypeId} (h : w.heap[c]? = some (.cells cs T (0, 0))) (j : Nat) : w.cell? ⟨c, j, none⟩ = cs[j]? := by simp [World.cell?, h]
theorem free_of_heap {w : World} {c : Nat} {cs : Array Value} {T : TypeId} (h : w.heap[c]? = some (.cells cs T (0, 0))) (j : Nat) : w.frozen? ⟨c, j, none⟩ = false := by simp [World.frozen?, h]
theorem PIn.lt {w : World} {b g cap len : Nat} {toks : List Pq.Tok} {vb vk vf : Value} {s : Pq.PS} (h : PIn w b g cap len toks vb vk vf s) : b < w.heap.size ∧ g < w.heap.size := by
  obtain ⟨cur, hg, _⟩ := h.row
  exact ⟨(Array.getElem?_eq_some_iff.1 h.blk).1, (Array.getElem?_eq_some_iff.1 hg).1⟩
theorem PIn.alloc {w : World} {b g cap len : Nat} {toks : List Pq.Tok} {vb vk vf : Value} {s : Pq.PS} (h : PIn w b g cap len toks vb vk vf s) (o : Obj) : PIn (w.alloc o) b g cap len toks vb vk vf s := h.congr (Below.heap_alloc _ _ _ h.lt.1) (Below.heap_alloc _ _ _ h.lt.2)
theorem PIn.setOther {w : World} {b g cap len : Nat} {toks : List Pq.Tok} {vb vk vf : Value} {s : Pq.PS} (h : PIn w b g cap len toks vb vk vf s) {a : Addr} (ha : a.block ≠ b) (ha' : a.block ≠ g) (v : Value) : PIn (w.setCell a v) b g cap len toks vb vk vf s := h.congr (Below.heap_setCell _ _ _ _ (Ne.symm ha)) (Below.heap_setCell _ _ _ _ (Ne.symm ha'))
set_option maxHeartbeats 400000 in
theorem readNumber_any {w : World} {b g cap len : Nat} {toks : List Pq.Tok} {vb vk vf : Value} {s : Pq.PS} (h : PIn w b g cap len toks vb vk vf s) :
    Calls Tryz.prog 172 #[.pointer (some ⟨b, 0, none⟩)] w fun e w' => e = .returned (.int .i64 (Pq.numV toks s)) ∧ PIn w' b g cap len toks vb vk vf (Pq.numS toks s) ∧ Gb b w w' := by
  have H := hide h
  obtain ⟨c0, c1, c2, c3⟩ := h.cells
  have hle := h.le
  have hbd := h.bd
  have hfz := h.frozen 3
  have hfz2 := h.frozen 2
  cases hf : s.failed
  · by_cases hn : s.next < toks.length
    · obtain ⟨t0, t1, t2⟩ := h.tok s.next hn
      have hlt := h.lt
      have hgd := hide (h.good _ (List.getElem_mem hn))
      clear h
      cases hnum : toks[s.next].num
      · have HV : Hid (Pq.numV toks s = 0) := by show _ = _; simp [Pq.numV, Pq.isNum, hf, hn, hnum]
        have HS : Hid (Pq.numS toks s = s.fail) := by show _ = _; simp [Pq.numS, Pq.isNum, hf, hn, hnum]
        rw [hf] at c3
        go_enter Tryz.func172, Tryz.ntmps172
        go_wp2
        go_quiet (fail)
        go_wp2
        have H1 := hide (H.out.drewN nq)
        have G1 := (Gb.refl b w).drewN nq
        clear c0 c1 c2 c3 t0 t1 t2 hfz hfz2 hlt
        generalize w.drewN nq = w1 at *
        obtain ⟨c0, c1, c2, c3⟩ := H1.out.cells
        obtain ⟨t0, t1, t2⟩ := H1.out.tok s.next hn
        have hfz := H1.out.frozen 3
        have hfz2 := H1.out.frozen 2
        have n1 := World.new_ne w1 ⟨b, 0, none⟩ c0
        have n2 := World.new_ne w1 ⟨g, s.next * 3, none⟩ t0
        rw [hnum] at t2
        go_region_held3 (fun w' => w'.cell? ⟨b, 0, none⟩ = some (.slice (some ⟨g, 0, none⟩) toks.length cap) ∧ w'.cell? ⟨b, 2, none⟩ = some (.int .i64 (s.next : Int)) ∧ w'.cell? ⟨g, s.next * 3, none⟩ = some (.string ⟨toks[s.next].text.toArray⟩) ∧ w'.cell? ⟨g, s.next * 3 + 1, none⟩ = some (.int .i64 (toks[s.next].at' : Int)) ∧ w'.cell? ⟨g, s.next * 3 + 2, none⟩ = some (.bool false)) (go_keep) (fail)
        have H2 := hide ((H1.out.alloc (.cells #[.string ⟨toks[s.next].text.toArray⟩, .int .i64 (toks[s.next].at' : Int), .bool false] 206)).drew)
        have G2 := (G1.alloc (.cells #[.string ⟨toks[s.next].text.toArray⟩, .int .i64 (toks[s.next].at' : Int), .bool false] 206)).drew
        have L2 : (w1.alloc (.cells #[.string ⟨toks[s.next].text.toArray⟩, .int .i64 (toks[s.next].at' : Int), .bool false] 206)).drew.heap[w1.heap.size]? = some (.cells #[.string ⟨toks[s.next].text.toArray⟩, .int .i64 (toks[s.next].at' : Int), .bool false] 206) := heap_alloc_new w1 _
        rename_i hHeld
        clear c0 c1 c2 c3 t0 t1 t2 hfz hfz2 n1 n2 hHeld
        generalize (w1.alloc (.cells #[.string ⟨toks[s.next].text.toArray⟩, .int .i64 (toks[s.next].at' : Int), .bool false] 206)).drew = w2 at *
        obtain ⟨c0, c1, c2, c3⟩ := H2.out.cells
        have hfz := H2.out.frozen 3
        have hfz2 := H2.out.frozen 2
        have l0 := cell_of_heap L2 0
        have l2 := cell_of_heap L2 2
        have HL2 := hide L2
        clear L2
        go_wp2
        go_ret
        rw [HV.out, HS.out]
        exact ⟨rfl, H2.out.fail, G2.set _ _⟩
      · have HV : Hid (Pq.numV toks s = Pq.worth toks[s.next].text) := by show _ = _; simp [Pq.numV, Pq.isNum, hf, hn, hnum]
        have HS : Hid (Pq.numS toks s = s.step) := by show _ = _; simp [Pq.numS, Pq.isNum, hf, hn, hnum]
        rw [hf] at c3
        go_enter Tryz.func172, Tryz.ntmps172
        go_wp2
        go_quiet (fail)
        go_wp2
        have H1 := hide (H.out.drewN nq)
        have G1 := (Gb.refl b w).drewN nq
        clear c0 c1 c2 c3 t0 t1 t2 hfz hfz2 hlt
        generalize w.drewN nq = w1 at *
        obtain ⟨c0, c1, c2, c3⟩ := H1.out.cells
        obtain ⟨t0, t1, t2⟩ := H1.out.tok s.next hn
        have hfz := H1.out.frozen 3
        have hfz2 := H1.out.frozen 2
        have n1 := World.new_ne w1 ⟨b, 0, none⟩ c0
        have n2 := World.new_ne w1 ⟨g, s.next * 3, none⟩ t0
        rw [hnum] at t2
        go_region_held3 (fun w' => w'.cell? ⟨b, 0, none⟩ = some (.slice (some ⟨g, 0, none⟩) toks.length cap) ∧ w'.cell? ⟨b, 2, none⟩ = some (.int .i64 (s.next : Int)) ∧ w'.cell? ⟨g, s.next * 3, none⟩ = some (.string ⟨toks[s.next].text.toArray⟩) ∧ w'.cell? ⟨g, s.next * 3 + 1, none⟩ = some (.int .i64 (toks[s.next].at' : Int)) ∧ w'.cell? ⟨g, s.next * 3 + 2, none⟩ = some (.bool true)) (go_keep) (fail)
        have H2 := hide ((H1.out.alloc (.cells #[.string ⟨toks[s.next].text.toArray⟩, .int .i64 (toks[s.next].at' : Int), .bool true] 206)).drew)
        have G2 := (G1.alloc (.cells #[.string ⟨toks[s.next].text.toArray⟩, .int .i64 (toks[s.next].at' : Int), .bool true] 206)).drew
        have L2 : (w1.alloc (.cells #[.string ⟨toks[s.next].text.toArray⟩, .int .i64 (toks[s.next].at' : Int), .bool true] 206)).drew.heap[w1.heap.size]? = some (.cells #[.string ⟨toks[s.next].text.toArray⟩, .int .i64 (toks[s.next].at' : Int), .bool true] 206) := heap_alloc_new w1 _
        rename_i hHeld
        clear c0 c1 c2 c3 t0 t1 t2 hfz hfz2 n1 n2 hHeld
        generalize (w1.alloc (.cells #[.string ⟨toks[s.next].text.toArray⟩, .int .i64 (toks[s.next].at' : Int), .bool true] 206)).drew = w2 at *
        obtain ⟨c0, c1, c2, c3⟩ := H2.out.cells
        have hfz := H2.out.frozen 3
        have hfz2 := H2.out.frozen 2
        have l0 := cell_of_heap L2 0
        have l2 := cell_of_heap L2 2
        have HL2 := hide L2
        clear L2
        obtain ⟨hg1, hg2⟩ := hgd.out hnum
        have hg3 := hide hg2
        clear hg2
        go_wp2_with fail
        refine (worth_any ⟨toks[s.next].text.toArray⟩ _ hg1 (hide hg3.out)).mono ?_; rintro e w3 ⟨rfl, rfl⟩
        go_wp2
        go_ret
        rw [HV.out, HS.out]
        exact ⟨by simp, H2.out.step hn, G2.set _ _⟩
    · clear h
      have HV : Hid (Pq.numV toks s = 0) := by show _ = _; simp [Pq.numV, Pq.isNum, hf, show toks.length ≤ s.next by omega]
      have HS : Hid (Pq.numS toks s = s.fail) := by show _ = _; simp [Pq.numS, Pq.isNum, hf, show toks.length ≤ s.next by omega]
      rw [hf] at c3
      go_enter Tryz.func172, Tryz.ntmps172
      go_wp2
      go_quiet (fail)
      go_wp2
      go_ret
      rw [HV.out, HS.out]
      exact ⟨rfl, (H.out.drewN _).fail, ((Gb.refl _ _).drewN _).set _ _⟩
  · clear h
    have HV : Hid (Pq.numV toks s = 0) := by show _ = _; simp [Pq.numV, Pq.isNum, hf]
    have HS : Hid (Pq.numS toks s = s.fail) := by show _ = _; simp [Pq.numS, Pq.isNum, hf]
    rw [hf] at c3
    go_enter Tryz.func172, Tryz.ntmps172
    go_wp2
    go_quiet (fail)
    go_wp2
    go_ret
    rw [HV.out, HS.out]
    exact ⟨rfl, (H.out.drewN _).fail, ((Gb.refl _ _).drewN _).set _ _⟩
set_option maxHeartbeats 400000 in
theorem readTile_any {w : World} {b g cap len : Nat} {toks : List Pq.Tok} {vb vk vf : Value} {s : Pq.PS} (h : PIn w b g cap len toks vb vk vf s) :
    Calls Tryz.prog 194 #[.pointer (some ⟨b, 0, none⟩)] w fun e w' => e = .returned (.int .i64 (Pq.numV toks s)) ∧ PIn w' b g cap len toks vb vk vf (Pq.tileS toks len s) ∧ Gb b w w' := by
  have H := hide h
  clear h
  go_enter Tryz.func194, Tryz.ntmps194
  go_wp2_with fail
  refine (place_any H.out).mono ?_
  rintro e w1 ⟨rfl, nq, rfl⟩
  have H1 := hide (H.out.drewN nq)
  have G1 := (Gb.refl b w).drewN nq
  generalize w.drewN nq = w1 at *
  go_wp2_with fail
  refine (readNumber_any H1.out).mono ?_
  rintro e w2 ⟨rfl, h2, g2⟩
  have G2 := G1.trans g2
  obtain ⟨d0, d1, d2⟩ := h2.cells2
  have hfz := h2.frozen 12
  have H2 := hide h2
  clear h2
  by_cases hz : Pq.numV toks s = 0
  · by_cases ha : (Pq.numS toks s).arg = -1
    · have HT : Hid (Pq.tileS toks len s = { Pq.numS toks s with arg := Pq.placeS toks len s }) := by show _ = _; simp [Pq.tileS, hz, ha]
      have ha' : ((Pq.numS toks s).arg == -1) = true := by simpa using ha
      have hz' : (Pq.numV toks s == 0) = true := by simpa using hz
      have HZ := hide hz
      clear hz ha
      go_wp2
      go_ret
      rw [HT.out]
      exact ⟨rfl, H2.out.set 12 _ _ _ _ _ (by simp [psCells]) H2.out.le, G2.set _ _⟩
    · have HT : Hid (Pq.tileS toks len s = Pq.numS toks s) := by show _ = _; simp [Pq.tileS, ha]
      have ha' : ((Pq.numS toks s).arg == -1) = false := by simpa using ha
      have hz' : (Pq.numV toks s == 0) = true := by simpa using hz
      have HZ := hide hz
      clear hz ha
      go_wp2
      go_ret
      rw [HT.out]
      exact ⟨rfl, H2.out, G2⟩
  · have HT : Hid (Pq.tileS toks len s = Pq.numS toks s) := by show _ = _; simp [Pq.tileS, hz]
    have hz' : (Pq.numV toks s == 0) = false := by simpa using hz
    clear hz
    go_wp2
    go_ret
    rw [HT.out]
    exact ⟨rfl, H2.out, G2⟩
end Go.Proofs.YtcoofnhdbejnpaaGreatDoor

/- Package panesref: find, Tokens. -/
namespace Go.Proofs.YtcoofnhdbejnpaaGreatDoor
open Go.RowKit
/-- a token's two cells -/
def rtok (t : Pq.Tok) : List Value := [.string ⟨t.text.toArray⟩, .int .i64 (t.at' : Nat)]
def rtoks (ts : List Pq.Tok) : List Value := ts.flatMap rtok
theorem rtoks_len (ts : List Pq.Tok) : (rtoks ts).length = ts.length * 2 := by
  induction ts with
  | nil => rfl
  | cons t ts ih => simp only [rtoks, List.flatMap_cons, List.length_append, List.length_cons] at ih ⊢; rw [ih]; simp [rtok]; omega
theorem rtoks_get : ∀ (ts : List Pq.Tok) (n : Nat) (h : n < ts.length), (rtoks ts)[n * 2]? = some (.string ⟨ts[n].text.toArray⟩) ∧ (rtoks ts)[n * 2 + 1]? = some (.int .i64 (ts[n].at' : Int))
  | [], _, h => by simp at h
  | t :: ts, 0, _ => by simp [rtoks, rtok]
  | t :: ts, n + 1, h => by
    have ih := rtoks_get ts n (by simpa using h)
    have e1 : (n + 1) * 2 = n * 2 + 2 := by omega
    simp only [rtoks, List.flatMap_cons, List.getElem_cons_succ] at ih ⊢
    have e : (rtok t).length = 2 := rfl
    rw [e1, List.getElem?_append_right (by omega), List.getElem?_append_right (by omega), e]
    have a1 : n * 2 + 2 - 2 = n * 2 := by omega
    have a2 : n * 2 + 2 + 1 - 2 = n * 2 + 1 := by omega
    rw [a1, a2]
    exact ih
/-- a list of tokens can be read behind a slice -/
def RdT (w : World) (v : Value) (ts : List Pq.Tok) : Prop :=
  (v = .slice none 0 0 ∧ ts = []) ∨ ∃ g off cap cur, v = .slice (some ⟨g, off, none⟩) ts.length cap ∧ ts.length ≤ cap ∧ w.heap[g]? = some (.cells cur 183 (0, 0)) ∧ ∀ (j : Nat) (u : Value), (rtoks ts)[j]? = some u → cur[off + j]? = some u
theorem RdT.cell {w : World} {g off n cap : Nat} {ts : List Pq.Tok} (h : RdT w (.slice (some ⟨g, off, none⟩) n cap) ts) (j : Nat) (hj : j < ts.length) : w.cell? ⟨g, off + j * 2, none⟩ = some (.string ⟨ts[j].text.toArray⟩) ∧ w.cell? ⟨g, off + j * 2 + 1, none⟩ = some (.int .i64 (ts[j].at' : Int)) := by
  rcases h with ⟨h, _⟩ | ⟨g', off', cap', cur, h, _, hg, hc⟩
  · cases h
  · cases h
    obtain ⟨h1, h2⟩ := rtoks_get ts j hj
    simp only [World.cell?, hg]
    exact ⟨hc _ _ h1, by rw [Nat.add_assoc]; exact hc _ _ h2⟩
theorem RdT.ofOwn {w : World} {B n : Nat} {v : Value} {ts : List Pq.Tok} (h : w.ownsRow B 183 2 v n (rtoks ts)) : RdT w v ts := by
  have hl := h.1
  rw [rtoks_len] at hl
  have hn : ts.length = n := by omega
  subst hn
  rcases h.2 with ⟨h1, h2⟩ | ⟨g, cap, cur, h1, h2, h3, h4, h5, h6, h7⟩
  · exact .inl ⟨h1, List.eq_nil_of_length_eq_zero h2⟩
  · refine .inr ⟨g, 0, cap, cur, h1, h4, h3, fun j u hu => ?_⟩
    rw [← h7] at hu
    rw [List.getElem?_take] at hu
    split at hu
    · simpa using hu
    · cases hu
theorem RdT.below {w w' : World} {v : Value} {ts : List Pq.Tok} (h : RdT w v ts) (hb : Below w.heap.size w w') : RdT w' v ts := by
  rcases h with h | ⟨g, off, cap, cur, h1, h2, h3, h4⟩
  · exact .inl h
  · refine .inr ⟨g, off, cap, cur, h1, h2, ?_, h4⟩
    rw [hb.block g (by rcases Nat.lt_or_ge g w.heap.size with h | h; exact h; rw [Array.getElem?_eq_none h] at h3; cases h3)]
    exact h3
end Go.Proofs.YtcoofnhdbejnpaaGreatDoor

/- Package queries: readEdge. -/
namespace Go.Proofs.YtcoofnhdbejnpaaGreatDoor
open Go.RowKit
theorem Gb.keep {b c : Nat} {w w' : World} {o : Obj} (h : Gb b w w') (hc : w.heap[c]? = some o) (hne : c ≠ b) : w'.heap[c]? = some o := by
  rw [h.block c (Array.getElem?_eq_some_iff.1 hc).1 (by simpa using hne)]; exact hc
theorem Gb.setNew {b : Nat} {w w' : World} (h : Gb b w w') {a : Addr} (ha : w.heap.size ≤ a.block) (v : Value) : Gb b w (w'.setCell a v) :=
  ⟨h.os, h.tape, h.output, by have := h.size; simpa [World.setCell] using this, fun k hk hn => (Below.heap_setCell _ _ _ _ (by omega)).trans (h.block k hk hn)⟩
theorem PIn.took {w : World} {b g cap len : Nat} {toks : List Pq.Tok} {vb vk vf : Value} {s : Pq.PS} {t : Pq.Bytes} (h' : PIn w b g cap len toks vb vk vf (Pq.takeS toks t s)) (ht : Pq.takes toks t s = true) : PIn w b g cap len toks vb vk vf s.step := by
  have e : Pq.takeS toks t s = s.step := by simp [Pq.takeS, ht]
  rwa [e] at h'
theorem PIn.left {w : World} {b g cap len : Nat} {toks : List Pq.Tok} {vb vk vf : Value} {s : Pq.PS} {t : Pq.Bytes} (h' : PIn w b g cap len toks vb vk vf (Pq.takeS toks t s)) (ht : Pq.takes toks t s = false) : PIn w b g cap len toks vb vk vf s := by
  rwa [Pq.takeS_no ht] at h'
set_option maxHeartbeats 1000000 in
theorem readEdge_any {w : World} {b g cap len : Nat} {toks : List Pq.Tok} {vb vk vf : Value} {s : Pq.PS} (h : PIn w b g cap len toks vb vk vf s) :
    Calls Tryz.prog 215 #[.pointer (some ⟨b, 0, none⟩)] w fun e w' => e = .returned (.agg #[.int .i64 ((Pq.edgeR toks s).1.kind : Int), .int .i64 (Pq.edgeR toks s).1.num]) ∧ PIn w' b g cap len toks vb vk vf (Pq.edgeR toks s).2 ∧ Gb b w w' := by
  have H := hide h
  have hlt := h.lt
  clear h
  go_enter Tryz.func215, Tryz.ntmps215
  go_wp2_with fail
  refine (take_any (H.out.alloc _) Pq.wStart).mono ?_
  rintro e w1 ⟨rfl, h1, g1⟩
  have G1 : Gb b w w1 := ((Gb.refl b w).alloc _).trans g1
  have L1 := hide (g1.keep (heap_alloc_new w _) (Nat.ne_of_gt hlt.1))
  clear g1
  cases ht1 : Pq.takes toks Pq.wStart s
  · have H1 := hide (h1.left ht1)
    clear h1
    go_wp2_with fail
    refine (take_any H1.out Pq.wEnd).mono ?_
    rintro e w2 ⟨rfl, h2, g2⟩
    have G2 : Gb b w w2 := G1.trans g2
    have L2 := hide (g2.keep L1.out (Nat.ne_of_gt hlt.1))
    clear g2
    cases ht2 : Pq.takes toks Pq.wEnd s
    · have H2 := hide (h2.left ht2)
      clear h2
      go_wp2_with fail
      refine (take_any H2.out Pq.wHere).mono ?_
      rintro e w3 ⟨rfl, h3, g3⟩
      have G3 : Gb b w w3 := G2.trans g3
      have L3 := hide (g3.keep L2.out (Nat.ne_of_gt hlt.1))
      clear g3
      cases ht3 : Pq.takes toks Pq.wHere s
      · have H3 := hide (h3.left ht3)
        clear h3
        go_wp2_with fail
        refine (readNumber_any H3.out).mono ?_
        rintro e w4 ⟨rfl, h4, g4⟩
        have G4 : Gb b w w4 := G3.trans g4
        have L4 := hide (g4.keep L3.out (Nat.ne_of_gt hlt.1))
        clear g4
        have H4 := hide h4
        clear h4
        go_wp2_with fail
        refine (take_any H4.out Pq.wBack).mono ?_
        rintro e w5 ⟨rfl, h5, g5⟩
        have G5 : Gb b w w5 := G4.trans g5
        have L5 := hide (g5.keep L4.out (Nat.ne_of_gt hlt.1))
        clear g5
        cases ht5 : Pq.takes toks Pq.wBack (Pq.numS toks s)
        · have HE : Hid (Pq.edgeR toks s = (⟨4, Pq.numV toks s⟩, Pq.wantS toks Pq.wOn (Pq.numS toks s))) := by show _ = _; simp [Pq.edgeR, ht1, ht2, ht3, ht5]
          have H5 := hide (h5.left ht5)
          clear h5
          go_wp2_with fail
          refine (want_any H5.out Pq.wOn).mono ?_
          rintro e w6 ⟨rfl, h6, g6⟩
          have G6 : Gb b w w6 := G5.trans g6
          have L6 := hide (g6.keep L5.out (Nat.ne_of_gt hlt.1))
          clear g6
          have H6 := hide h6
          clear h6
          have l0 := cell_of_heap L6.out 0
          have l1 := cell_of_heap L6.out 1
          have f0 := free_of_heap L6.out 0
          have f1 := free_of_heap L6.out 1
          go_wp2
          refine bodyPost_ret (v := .agg #[.int .i64 4, .int .i64 (Pq.numV toks s)]) (by simp [results, Tryz.results215, go_sem, l0, l1]) rfl ?_
          rw [HE.out]
          exact ⟨rfl, (H6.out.setOther (Nat.ne_of_gt hlt.1) (Nat.ne_of_gt hlt.2) _).setOther (Nat.ne_of_gt hlt.1) (Nat.ne_of_gt hlt.2) _, (G6.setNew (Nat.le_refl _) _).setNew (Nat.le_refl _) _⟩
        · have HE : Hid (Pq.edgeR toks s = (⟨3, Pq.numV toks s⟩, (Pq.numS toks s).step)) := by show _ = _; simp [Pq.edgeR, ht1, ht2, ht3, ht5]
          have H5 := hide (h5.took ht5)
          clear h5
          have l0 := cell_of_heap L5.out 0
          have l1 := cell_of_heap L5.out 1
          have f0 := free_of_heap L5.out 0
          have f1 := free_of_heap L5.out 1
          go_wp2
          refine bodyPost_ret (v := .agg #[.int .i64 3, .int .i64 (Pq.numV toks s)]) (by simp [results, Tryz.results215, go_sem, l0, l1]) rfl ?_
          rw [HE.out]
          exact ⟨rfl, (H5.out.setOther (Nat.ne_of_gt hlt.1) (Nat.ne_of_gt hlt.2) _).setOther (Nat.ne_of_gt hlt.1) (Nat.ne_of_gt hlt.2) _, (G5.setNew (Nat.le_refl _) _).setNew (Nat.le_refl _) _⟩
      · have HE : Hid (Pq.edgeR toks s = (⟨2, 0⟩, s.step)) := by show _ = _; simp [Pq.edgeR, ht1, ht2, ht3]
        have H3 := hide (h3.took ht3)
        clear h3
        have l0 := cell_of_heap L3.out 0
        have l1 := cell_of_heap L3.out 1
        have f0 := free_of_heap L3.out 0
        have f1 := free_of_heap L3.out 1
        go_wp2
        refine bodyPost_ret (v := .agg #[.int .i64 2, .int .i64 0]) (by simp [results, Tryz.results215, go_sem, l0, l1]) rfl ?_
        rw [HE.out]
        exact ⟨rfl, (H3.out.setOther (Nat.ne_of_gt hlt.1) (Nat.ne_of_gt hlt.2) _).setOther (Nat.ne_of_gt hlt.1) (Nat.ne_of_gt hlt.2) _, (G3.setNew (Nat.le_refl _) _).setNew (Nat.le_refl _) _⟩
    · have HE : Hid (Pq.edgeR toks s = (⟨1, 0⟩, s.step)) := by show _ = _; simp [Pq.edgeR, ht1, ht2]
      have H2 := hide (h2.took ht2)
      clear h2
      have l0 := cell_of_heap L2.out 0
      have l1 := cell_of_heap L2.out 1
      have f0 := free_of_heap L2.out 0
      have f1 := free_of_heap L2.out 1
      go_wp2
      refine bodyPost_ret (v := .agg #[.int .i64 1, .int .i64 0]) (by simp [results, Tryz.results215, go_sem, l0, l1]) rfl ?_
      rw [HE.out]
      exact ⟨rfl, (H2.out.setOther (Nat.ne_of_gt hlt.1) (Nat.ne_of_gt hlt.2) _).setOther (Nat.ne_of_gt hlt.1) (Nat.ne_of_gt hlt.2) _, (G2.setNew (Nat.le_refl _) _).setNew (Nat.le_refl _) _⟩
  · have HE : Hid (Pq.edgeR toks s = (⟨0, 0⟩, s.step)) := by show _ = _; simp [Pq.edgeR, ht1]
    have H1 := hide (h1.took ht1)
    clear h1
    have l0 := cell_of_heap L1.out 0
    have l1 := cell_of_heap L1.out 1
    have f0 := free_of_heap L1.out 0
    have f1 := free_of_heap L1.out 1
    go_wp2
    refine bodyPost_ret (v := .agg #[.int .i64 0, .int .i64 0]) (by simp [results, Tryz.results215, go_sem, l0, l1]) rfl ?_
    rw [HE.out]
    exact ⟨rfl, (H1.out.setOther (Nat.ne_of_gt hlt.1) (Nat.ne_of_gt hlt.2) _).setOther (Nat.ne_of_gt hlt.1) (Nat.ne_of_gt hlt.2) _, (G1.setNew (Nat.le_refl _) _).setNew (Nat.le_refl _) _⟩
end Go.Proofs.YtcoofnhdbejnpaaGreatDoor

