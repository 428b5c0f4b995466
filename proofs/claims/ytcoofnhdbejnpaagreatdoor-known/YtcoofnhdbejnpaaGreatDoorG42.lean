/- Package lines: ofTable. -/
import Derived.Test.YtcoofnhdbejnpaaGreatDoorG41
namespace Go.Proofs.YtcoofnhdbejnpaaGreatDoor
open Go.RowKit
namespace Pv
theorem room_at (cs : List Nat) (r : R3) (all : List (List R3)) : partAt cs r all < (roomP cs r all).length := by
  have := partAt_le cs r all
  unfold roomP
  split
  · simp; omega
  · omega
theorem room_len (cs : List Nat) (r : R3) (all : List (List R3)) : (roomP cs r all).length ≤ all.length + 1 := by
  unfold roomP
  split
  · simp
  · omega
/-- the lines with so many copies laid -/
def curL (ks : List (Nat × Bool)) (cs : List Nat) (r : R3) (all : List (List R3)) (m : Nat) : List (List R3) := (roomP cs r all).modify (partAt cs r all) (insN ks r m)
theorem curL_zero (ks : List (Nat × Bool)) (cs : List Nat) (r : R3) (all : List (List R3)) : curL ks cs r all 0 = roomP cs r all := by
  unfold curL
  have : insN ks r 0 = id := rfl
  rw [this, List.modify_id]
theorem curL_len (ks : List (Nat × Bool)) (cs : List Nat) (r : R3) (all : List (List R3)) (m : Nat) : (curL ks cs r all m).length = (roomP cs r all).length := by unfold curL; simp
theorem curL_at (ks : List (Nat × Bool)) (cs : List Nat) (r : R3) (all : List (List R3)) (m : Nat) : partAt cs r all < (curL ks cs r all m).length := by rw [curL_len]; exact room_at cs r all
theorem curL_elem (ks : List (Nat × Bool)) (cs : List Nat) (r : R3) (all : List (List R3)) (m j : Nat) (h : j < (curL ks cs r all m).length) (h' : j < (roomP cs r all).length) : (curL ks cs r all m)[j] = if partAt cs r all = j then insN ks r m (roomP cs r all)[j] else (roomP cs r all)[j] :=
  List.getElem_modify (insN ks r m) (partAt cs r all) (roomP cs r all) j h
theorem curL_succ (ks : List (Nat × Bool)) (cs : List Nat) (r : R3) (all : List (List R3)) (m : Nat) : curL ks cs r all (m + 1) = (curL ks cs r all m).set (partAt cs r all) (insP ks r ((curL ks cs r all m)[partAt cs r all]'(curL_at ks cs r all m))) := by
  apply List.ext_getElem
  · rw [List.length_set, curL_len, curL_len]
  · intro j h1 h2
    have h3 : j < (roomP cs r all).length := by rw [curL_len] at h1; exact h1
    have h4 : j < (curL ks cs r all m).length := by rw [curL_len]; exact h3
    have e2 : ((curL ks cs r all m).set (partAt cs r all) (insP ks r ((curL ks cs r all m)[partAt cs r all]'(curL_at ks cs r all m))))[j] = if partAt cs r all = j then insP ks r ((curL ks cs r all m)[partAt cs r all]'(curL_at ks cs r all m)) else (curL ks cs r all m)[j] := List.getElem_set ..
    rw [e2, curL_elem ks cs r all (m + 1) j h1 h3, curL_elem ks cs r all m (partAt cs r all) (curL_at ks cs r all m) (room_at cs r all), curL_elem ks cs r all m j h4 h3]
    by_cases e : partAt cs r all = j
    · subst e; simp [insN]
    · simp [e]
theorem layN_mem {ks : List (Nat × Bool)} {cs : List Nat} {r : R3} {all : List (List R3)} {m M : Nat} (h : ∀ l ∈ all, l.length ≤ M) : ∀ l ∈ curL ks cs r all m, l.length ≤ M + m := by
  have hroom : ∀ l ∈ roomP cs r all, l.length ≤ M := fun l hl => by
    unfold roomP at hl
    split at hl
    · rcases List.mem_append.1 hl with q | q
      · exact h l q
      · rw [List.mem_singleton.1 q]; simp
    · exact h l hl
  intro l hl
  obtain ⟨j, hj, rfl⟩ := List.getElem_of_mem hl
  have h3 : j < (roomP cs r all).length := by rw [curL_len] at hj; exact hj
  rw [curL_elem ks cs r all m j hj h3]
  have := hroom _ (List.getElem_mem h3)
  split
  · rw [insN_len]; omega
  · omega
theorem lines_len (ks : List (Nat × Bool)) (cs : List Nat) (t : List Chg) (b : Nat) (hb : ∀ c ∈ t, c.2.toNat ≤ b) : ∀ k, k ≤ t.length → (linesP ks cs (t.take k)).length ≤ k ∧ ∀ l ∈ linesP ks cs (t.take k), l.length ≤ k * b
  | 0, _ => by simp [linesP]
  | k + 1, hk => by
    obtain ⟨i1, i2⟩ := lines_len ks cs t b hb k (by omega)
    rw [linesP_take ks cs t k (by omega)]
    have e : layN ks cs (linesP ks cs (t.take k)) t[k].1 t[k].2.toNat = curL ks cs t[k].1 (linesP ks cs (t.take k)) t[k].2.toNat := rfl
    rw [e]
    refine ⟨?_, fun l hl => ?_⟩
    · rw [curL_len]
      have := room_len cs t[k].1 (linesP ks cs (t.take k)); omega
    · have h1 := layN_mem i2 l hl
      have h2 := hb _ (List.getElem_mem (show k < t.length by omega))
      rw [Nat.add_mul]; omega
end Pv
theorem infoLine : (Tryz.prog.info? 176).map (fun i => (i.zero, i.size, i.bytes)) = some (some (.agg #[.slice none 0 0, .slice none 0 0]), 2, 48) := by kernel_rfl
/-- the program's query as a value -/
def qval (vb vk vf : Value) (has : Bool) (tp fr : Int) : Value := .agg #[vb, vk, vf, .bool has, .int .i64 tp, .int .i64 fr]
theorem LAll.sl {w : World} {B : Nat} {va vk : Value} {vs : List Value} {all : List (List Pv.R3)} (h : LAll w B va vk vs all) : ∃ x c, va = .slice x all.length c := by
  rcases own_form h.row with ⟨h, h2⟩ | ⟨g, c, h⟩
  · exact ⟨none, 0, by rw [h, h2]⟩
  · exact ⟨_, c, h⟩
theorem LAll.base {w : World} {B B' : Nat} {va vk : Value} {vs : List Value} {all : List (List Pv.R3)} (h : LAll w B va vk vs all) (hB : B' ≤ B) : LAll w B' va vk vs all :=
  ⟨own_base2 h.row hB, h.len, fun j h1 h2 => own_base2 (h.own j h1 h2) hB, h.dis⟩
theorem But.undrew {S : Nat → Prop} {w w' : World} (h : But S w.drew w') : But S w w' := ⟨h.os, h.tape, h.output, h.size, h.block⟩
theorem LAll.block {w : World} {B g n cap : Nat} {vk : Value} {vs : List Value} {all : List (List Pv.R3)} (h : LAll w B (.slice (some ⟨g, 0, none⟩) n cap) vk vs all) {j : Nat} (hj : j < all.length) : ∃ cur, w.heap[g]? = some (.cells cur 176 (0, 0)) ∧ cur[j * 2]? = some vk ∧ cur[j * 2 + 1]? = some (vs[j]'(by rw [h.len]; exact hj)) := by
  have hjv : j < vs.length := by rw [h.len]; exact hj
  obtain ⟨e0, e1⟩ := lineCells_get vk vs j hjv
  rcases h.row.2 with ⟨h1, _⟩ | ⟨g', cap', cur', h1, h2, h3, h4, h5, h6, h7⟩
  · cases h1
  · cases h1
    refine ⟨cur', h3, ?_, ?_⟩
    · rw [← h7, List.getElem?_take] at e0
      split at e0
      · simpa using e0
      · cases e0
    · rw [← h7, List.getElem?_take] at e1
      split at e1
      · simpa using e1
      · cases e1
/-- one copy more in a line -/
theorem LAll.ins {w w' : World} {B g n cap g6 cap6 : Nat} {vk : Value} {vs : List Value} {all : List (List Pv.R3)} {ks : List (Nat × Bool)} {r : Pv.R3} (h : LAll w B (.slice (some ⟨g, 0, none⟩) n cap) vk vs all) {j : Nat} (hj : j < all.length) {cur : Array Value} (hcur : w.heap[g]? = some (.cells cur 176 (0, 0)))
    (hbut : But (fun k => k = g ∨ (vs[j]'(by rw [h.len]; exact hj)).ownBlock = some k) w w') (hb' : w'.heap[g]? = some (.cells (cur.setIfInBounds (j * 2 + 1) (.slice (some ⟨g6, 0, none⟩) (all[j].length + 1) cap6)) 176 (0, 0))) (ho' : w'.ownsRow B 48 3 (.slice (some ⟨g6, 0, none⟩) (all[j].length + 1) cap6) (all[j].length + 1) (rrows (Pv.insP ks r all[j]))) (hn : (vs[j]'(by rw [h.len]; exact hj)).ownBlock = some g6 ∨ w.heap.size ≤ g6) :
    LAll w' B (.slice (some ⟨g, 0, none⟩) n cap) vk (vs.set j (.slice (some ⟨g6, 0, none⟩) (all[j].length + 1) cap6)) (all.set j (Pv.insP ks r all[j])) := by
  refine h.put j hj hcur hbut hb' ?_ (fun k hk => ?_)
  · rw [Pv.insP_len]; exact ho'
  · cases hk; exact hn
/-- lines are there -/
def HasL (w : World) (B : Nat) (va vk : Value) (all : List (List Pv.R3)) : Prop := ∃ vs, LAll w B va vk vs all
set_option maxRecDepth 100000 in
set_option maxHeartbeats 4000000 in
theorem ofTable_any {w : World} {vb vk vf vt : Value} {has : Bool} {tp fr : Int} {cs : List Nat} {ks : List (Nat × Bool)} {fs : List Pq.Fn} {t : List Pv.Chg} (hb : RdB w vb cs) (hk : RdK w vk ks) (hf : RdF w vf fs) (ht : RdC w vt t) (hbl : cs.length ≤ 1000) (hbc : ∀ c ∈ cs, c < 3) (hkl : ks.length ≤ 1000) (hkc : ∀ k ∈ ks, k.1 < 3) (htl : t.length ≤ 100) (htb : ∀ c ∈ t, 0 ≤ c.2 ∧ c.2 ≤ 100) :
    Calls Tryz.prog 100 #[qval vb vk vf has tp fr, vt] w fun e w' => Below w.heap.size w w' ∧ ∃ va, e = .returned va ∧ HasL w' w.heap.size va vk (Pv.linesP ks cs t) := by
  obtain ⟨i0, hi, hz0, hz1, hz2⟩ := info_parts infoLine
  unfold qval
  have HB := hide hb
  have HK := hide hk
  have HT := hide ht
  have HBC := hide hbc
  have HKC := hide hkc
  have HTB := hide htb
  obtain ⟨xb, cb, rfl⟩ := RdG.sl hb
  obtain ⟨xk, ck, rfl⟩ := RdG.sl hk
  obtain ⟨xf, cf, rfl⟩ := RdG.sl hf
  obtain ⟨xt, nt, ct, rfl⟩ : ∃ a n c, vt = .slice a n c := by
    rcases ht.form with ⟨h, _⟩ | ⟨g, off, cap, h, _⟩
    · exact ⟨_, _, _, h⟩
    · exact ⟨_, _, _, h⟩
  obtain rfl := ht.len
  have HLL := hide (Pv.lines_len ks cs t 100 (fun c hc => by have := htb c hc; omega))
  clear hb hk hf ht hbc hkc htb
  go_enter Tryz.func100, Tryz.ntmps100
  go_upto_region 1 with fail
  have C0 := hide (K1.start w #[.slice xb cs.length cb, .slice xk ks.length ck, .slice xf fs.length cf, .bool has, .int .i64 tp, .int .i64 fr] 112)
  generalize w.alloc (.cells #[.slice xb cs.length cb, .slice xk ks.length ck, .slice xf fs.length cf, .bool has, .int .i64 tp, .int .i64 fr] 112) = w0 at *
  have hs0 := C0.out.size
  have HQ : ∀ wx, Hid (Below w0.heap.size w0 wx → Below w.heap.size w wx ∧ wx.cell? ⟨w.heap.size, 0, none⟩ = some (.slice xb cs.length cb) ∧ wx.cell? ⟨w.heap.size, 1, none⟩ = some (.slice xk ks.length ck)) := fun wx hb => by
    have C1 := C0.out.below hb
    exact ⟨C1.bl, cell_of_heap C1.a 0, cell_of_heap C1.a 1⟩
  go_wp2
  go_loopw [5, 6] (fun a5 r6 wr => ∃ k : Nat, k ≤ t.length ∧ r6 = .int .i64 k ∧ HasL wr w0.heap.size a5 (.slice xk ks.length ck) (Pv.linesP ks cs (t.take k)) ∧ Below w0.heap.size w0 wr) (fun _ r6 _ => t.length - (intOf r6).toNat)
  case atStart => exact ⟨0, by omega, rfl, ⟨[], LAll.nil _ _ _⟩, Below.refl _ _⟩
  case round =>
    obtain ⟨k, hk, rfl, ⟨vs, hla⟩, hb⟩ := hrel
    have A1 := hide hla
    have B1 := hide hb
    obtain ⟨xa, ca, rfl⟩ := hla.sl
    clear hla hb
    obtain ⟨bw, q0, q1⟩ := (HQ _).out B1.out
    by_cases hlt : k < t.length
    · have hlt' : (k : Int) < (t.length : Int) := by omega
      obtain ⟨g, off, cap, e, hcap⟩ := HT.out.form1 (by omega)
      cases e
      obtain ⟨c0, c1, c2, c3⟩ := (HT.out.below bw).cell k hlt
      have BW := hide bw
      clear bw
      have HLT := hide (Pv.linesP_take ks cs t k hlt)
      have HL1 := hide (HLL.out k hk)
      have hn1 := HTB.out _ (List.getElem_mem hlt)
      have hal : (Pv.linesP ks cs (t.take k)).length ≤ 100 := by have := HL1.out.1; omega
      go_upto_region 5 with fail
      go_still_tail 8, (by kernel_rfl)
      go_wp2_with fail
      refine (lplace_any (A1.out.below (below_drew0 _)) (HK.out.below (below_d BW.out)) (HB.out.below (below_d BW.out)) hbl HBC.out (by omega) _ _ _).mono ?_
      rintro e w3 ⟨rfl, e3⟩
      replace e3 := undrew e3
      have B3 := hide (B1.out.trans (e3.mono B1.out.size))
      have A3 := hide (A1.out.below e3)
      clear q0 q1 c0 c1 c2 c3 e3 A1 BW B1
      obtain ⟨bw, q0, q1⟩ := (HQ _).out B3.out
      clear bw
      have HEQ : Hid (Pv.linesP ks cs (t.take (k + 1)) = Pv.curL ks cs (t[k].1.1, t[k].1.2.1, t[k].1.2.2) (Pv.linesP ks cs (t.take k)) t[k].2.toNat) := HLT.out
      clear HLT
      have HLB := hide HL1.out.2
      clear HL1
      generalize Pv.linesP ks cs (t.take k) = all at *
      have hpl := Pv.partAt_le cs (t[k].1.1, t[k].1.2.1, t[k].1.2.2) all
      have HRA := hide (Pv.room_at cs (t[k].1.1, t[k].1.2.1, t[k].1.2.2) all)
      have HRL := hide (Pv.room_len cs (t[k].1.1, t[k].1.2.1, t[k].1.2.2) all)
      by_cases hpa : Pv.partAt cs (t[k].1.1, t[k].1.2.1, t[k].1.2.2) all = all.length
      · have HRO : Hid (Pv.roomP cs (t[k].1.1, t[k].1.2.1, t[k].1.2.2) all = all ++ [[]]) := by show _ = _; unfold Pv.roomP; rw [if_pos hpa]
        have hs3 := B3.out.size
        have hpa' : (((Pv.partAt cs (t[k].1.1, t[k].1.2.1, t[k].1.2.2) all : Nat) : Int) == (all.length : Int)) = true := by simp [hpa]
        clear hpa
        go_wp2_with (at_builtin; refine wpList_append_own_at _ rfl (.tmp 28) (.tmp 32) 172 rfl w0.heap.size 176 i0 _ 2 48 Tryz.underlying172 hi hz0 hz1 hz2 rfl (by decide) _ all.length (lineCells (.slice xk ks.length ck) vs) rfl (A3.out.row.alloc _) _ 1 1 [.slice xk ks.length ck, .slice none 0 0] rfl rfl (World.news_of_block (heap_alloc_new _ _)) (by intro u hu; simp at hu; rcases hu with rfl | rfl <;> rfl) (by unfold maxLen; omega) (by omega) (by simp; omega) ?_; intro v8 w8 hown8 hgrow8 hnil8 hat8; have B4 := hide (show Below w0.heap.size w0 w8 from (B3.out.alloc hs3 _).grown hgrow8 (by simp; omega) (fun k hk => (A3.out.row.lt k hk).1)); have A8 := hide (A3.out.push ((Below.refl _ _).alloc (Nat.le_refl _) _) hgrow8 hown8); clear hown8 hgrow8 hnil8 hat8)
        have A4 : Hid (LAll w8 w0.heap.size v8 (.slice xk ks.length ck) (vs ++ [.slice none 0 0]) (Pv.roomP cs (t[k].1.1, t[k].1.2.1, t[k].1.2.2) all)) := by
          show LAll _ _ _ _ _ _
          rw [HRO.out]; exact A8.out
        clear A8 HRO A3 B3 q0 q1
        obtain ⟨x4, c4, e4⟩ := A4.out.sl
        cases e4
        obtain ⟨g4, cap4, e⟩ : ∃ g cap, (Value.slice x4 (Pv.roomP cs (t[k].1.1, t[k].1.2.1, t[k].1.2.2) all).length c4) = .slice (some ⟨g, 0, none⟩) (Pv.roomP cs (t[k].1.1, t[k].1.2.1, t[k].1.2.2) all).length cap := by
          rcases own_form A4.out.row with ⟨_, h2⟩ | h
          · have := HRA.out; omega
          · exact h
        cases e
        have HCZ := hide (Pv.curL_zero ks cs (t[k].1.1, t[k].1.2.1, t[k].1.2.2) all)
        go_loopw [8] (fun r8 wr => ∃ m : Nat, m ≤ t[k].2.toNat ∧ r8 = .int .i64 m ∧ HasL wr w0.heap.size (.slice (some ⟨g4, 0, none⟩) (Pv.roomP cs (t[k].1.1, t[k].1.2.1, t[k].1.2.2) all).length c4) (.slice xk ks.length ck) (Pv.curL ks cs (t[k].1.1, t[k].1.2.1, t[k].1.2.2) all m) ∧ Below w0.heap.size w0 wr) (fun r8 _ => t[k].2.toNat - (intOf r8).toNat)
        case atStart => exact ⟨0, by omega, rfl, by rw [HCZ.out]; exact ⟨_, A4.out⟩, B4.out⟩
        case round =>
          obtain ⟨m, hm, rfl, ⟨vs5, hla5⟩, hb5⟩ := hrel
          have A5 := hide hla5
          have B5 := hide hb5
          clear hla5 hb5
          obtain ⟨bw, q0, q1⟩ := (HQ _).out B5.out
          obtain ⟨c0, c1, c2, c3⟩ := (HT.out.below bw).cell k hlt
          have BW := hide bw
          clear bw q0 q1
          by_cases hml : m < t[k].2.toNat
          · have hml' : (m : Int) < t[k].2 := by omega
            have HCA := hide (Pv.curL_at ks cs (t[k].1.1, t[k].1.2.1, t[k].1.2.2) all m)
            have HCL := hide (Pv.curL_len ks cs (t[k].1.1, t[k].1.2.1, t[k].1.2.2) all m)
            have HCS := hide (Pv.curL_succ ks cs (t[k].1.1, t[k].1.2.1, t[k].1.2.2) all m)
            have HCM := hide (Pv.layN_mem (ks := ks) (cs := cs) (r := (t[k].1.1, t[k].1.2.1, t[k].1.2.2)) (m := m) HLB.out)
            have hat := HRA.out
            have hat' : ((Pv.partAt cs (t[k].1.1, t[k].1.2.1, t[k].1.2.2) all : Nat) : Int) < ((Pv.roomP cs (t[k].1.1, t[k].1.2.1, t[k].1.2.2) all).length : Int) := by omega
            have HLL5 : Hid ((Pv.curL ks cs (t[k].1.1, t[k].1.2.1, t[k].1.2.2) all m)[Pv.partAt cs (t[k].1.1, t[k].1.2.1, t[k].1.2.2) all].length ≤ 90000) := by
              show _ ≤ _
              have := HCM.out _ (List.getElem_mem HCA.out)
              have h1 : k * 100 ≤ 100 * 100 := Nat.mul_le_mul_right _ (by omega)
              omega
            obtain ⟨cur, hcur, hc0, hc1⟩ := A5.out.block HCA.out
            have HCU := hide hcur
            have HC0 := hide hc0
            have HC1 := hide hc1
            clear hcur hc0 hc1
            go_upto_region 11 with fail
            go_still_tail 8, (by kernel_rfl)
            go_wp2_with fail
            refine (linsert_any (w := wr.drew) HCU.out HC0.out HC1.out (HK.out.below (below_d BW.out)) hkl HKC.out ((A5.out.own _ (by rw [A5.out.len]; exact HCA.out) HCA.out).drew) (Nat.le_trans B5.out.size (Nat.le_refl _)) HLL5.out _ _ _).mono ?_
            rintro e w6 ⟨rfl, hbut, g6, cap6, hh6, ho6, hn6⟩
            have A6 := hide (A5.out.ins HCA.out HCU.out (But.undrew hbut) hh6 ho6 hn6)
            have B6 := hide (B5.out.trans ((But.undrew hbut).below (B := w0.heap.size) (fun z hz => by
              rintro (q | q)
              · subst q
                have h2 : w0.heap.size ≤ z := (A5.out.row.lt _ rfl).1
                omega
              · have := ((A5.out.own _ (by rw [A5.out.len]; exact HCA.out) HCA.out).lt z q).1; omega) B5.out.size))
            clear c0 c1 c2 c3 hbut hh6 ho6 hn6 HC1 A5 BW
            go_wp2
            go_roundw
            case rel => exact ⟨m + 1, by omega, by go_num, by rw [HCS.out]; exact ⟨_, A6.out⟩, B6.out⟩
            case measure => simp [intOf]; omega
          · have hml' : ¬ (m : Int) < t[k].2 := by omega
            obtain rfl : m = t[k].2.toNat := by omega
            go_wp2
            go_roundw
            case rel => exact ⟨k + 1, by omega, by go_num, by rw [HEQ.out]; exact ⟨_, A5.out⟩, B5.out⟩
            case measure => simp [intOf]; omega
      · have HRO : Hid (Pv.roomP cs (t[k].1.1, t[k].1.2.1, t[k].1.2.2) all = all) := by show _ = _; unfold Pv.roomP; rw [if_neg hpa]
        have hpa' : ((Pv.partAt cs (t[k].1.1, t[k].1.2.1, t[k].1.2.2) all : Int) == (all.length : Int)) = false := by rw [beq_eq_false_iff_ne]; omega
        have A4 : Hid (LAll w3 w0.heap.size (.slice xa all.length ca) (.slice xk ks.length ck) vs (Pv.roomP cs (t[k].1.1, t[k].1.2.1, t[k].1.2.2) all)) := by
          show LAll _ _ _ _ _ _
          rw [HRO.out]; exact A3.out
        have B4 := B3
        have HRL2 : Hid ((Pv.roomP cs (t[k].1.1, t[k].1.2.1, t[k].1.2.2) all).length = all.length) := by show _ = _; rw [HRO.out]
        clear A3 B3 q0 q1 hpa
        go_wp2
        obtain ⟨g4, cap4, e⟩ : ∃ g cap, (Value.slice xa all.length ca) = .slice (some ⟨g, 0, none⟩) all.length cap := by
          rcases own_form A4.out.row with ⟨_, h2⟩ | ⟨g, cap, h⟩
          · have := HRA.out; omega
          · rw [HRL2.out] at h
            exact ⟨g, cap, h⟩
        cases e
        have HCZ := hide (Pv.curL_zero ks cs (t[k].1.1, t[k].1.2.1, t[k].1.2.2) all)
        go_loopw [8] (fun r8 wr => ∃ m : Nat, m ≤ t[k].2.toNat ∧ r8 = .int .i64 m ∧ HasL wr w0.heap.size (.slice (some ⟨g4, 0, none⟩) all.length ca) (.slice xk ks.length ck) (Pv.curL ks cs (t[k].1.1, t[k].1.2.1, t[k].1.2.2) all m) ∧ Below w0.heap.size w0 wr) (fun r8 _ => t[k].2.toNat - (intOf r8).toNat)
        case atStart => exact ⟨0, by omega, rfl, by rw [HCZ.out]; exact ⟨_, A4.out⟩, B4.out⟩
        case round =>
          obtain ⟨m, hm, rfl, ⟨vs5, hla5⟩, hb5⟩ := hrel
          have A5 := hide hla5
          have B5 := hide hb5
          clear hla5 hb5
          obtain ⟨bw, q0, q1⟩ := (HQ _).out B5.out
          obtain ⟨c0, c1, c2, c3⟩ := (HT.out.below bw).cell k hlt
          have BW := hide bw
          clear bw q0 q1
          by_cases hml : m < t[k].2.toNat
          · have hml' : (m : Int) < t[k].2 := by omega
            have HCA := hide (Pv.curL_at ks cs (t[k].1.1, t[k].1.2.1, t[k].1.2.2) all m)
            have HCL := hide (Pv.curL_len ks cs (t[k].1.1, t[k].1.2.1, t[k].1.2.2) all m)
            have HCS := hide (Pv.curL_succ ks cs (t[k].1.1, t[k].1.2.1, t[k].1.2.2) all m)
            have HCM := hide (Pv.layN_mem (ks := ks) (cs := cs) (r := (t[k].1.1, t[k].1.2.1, t[k].1.2.2)) (m := m) HLB.out)
            have hat : Pv.partAt cs (t[k].1.1, t[k].1.2.1, t[k].1.2.2) all < all.length := by have := HRA.out; have := HRL2.out; omega
            have hat' : ((Pv.partAt cs (t[k].1.1, t[k].1.2.1, t[k].1.2.2) all : Nat) : Int) < (all.length : Int) := by omega
            have HLL5 : Hid ((Pv.curL ks cs (t[k].1.1, t[k].1.2.1, t[k].1.2.2) all m)[Pv.partAt cs (t[k].1.1, t[k].1.2.1, t[k].1.2.2) all].length ≤ 90000) := by
              show _ ≤ _
              have := HCM.out _ (List.getElem_mem HCA.out)
              have h1 : k * 100 ≤ 100 * 100 := Nat.mul_le_mul_right _ (by omega)
              omega
            obtain ⟨cur, hcur, hc0, hc1⟩ := A5.out.block HCA.out
            have HCU := hide hcur
            have HC0 := hide hc0
            have HC1 := hide hc1
            clear hcur hc0 hc1
            go_upto_region 11 with fail
            go_still_tail 8, (by kernel_rfl)
            go_wp2_with fail
            refine (linsert_any (w := wr.drew) HCU.out HC0.out HC1.out (HK.out.below (below_d BW.out)) hkl HKC.out ((A5.out.own _ (by rw [A5.out.len]; exact HCA.out) HCA.out).drew) (Nat.le_trans B5.out.size (Nat.le_refl _)) HLL5.out _ _ _).mono ?_
            rintro e w6 ⟨rfl, hbut, g6, cap6, hh6, ho6, hn6⟩
            have A6 := hide (A5.out.ins HCA.out HCU.out (But.undrew hbut) hh6 ho6 hn6)
            have B6 := hide (B5.out.trans ((But.undrew hbut).below (B := w0.heap.size) (fun z hz => by
              rintro (q | q)
              · subst q
                have h2 : w0.heap.size ≤ z := (A5.out.row.lt _ rfl).1
                omega
              · have := ((A5.out.own _ (by rw [A5.out.len]; exact HCA.out) HCA.out).lt z q).1; omega) B5.out.size))
            clear c0 c1 c2 c3 hbut hh6 ho6 hn6 HC1 A5 BW
            go_wp2
            go_roundw
            case rel => exact ⟨m + 1, by omega, by go_num, by rw [HCS.out]; exact ⟨_, A6.out⟩, B6.out⟩
            case measure => simp [intOf]; omega
          · have hml' : ¬ (m : Int) < t[k].2 := by omega
            obtain rfl : m = t[k].2.toNat := by omega
            go_wp2
            go_roundw
            case rel => exact ⟨k + 1, by omega, by go_num, by rw [HEQ.out]; exact ⟨_, A5.out⟩, B5.out⟩
            case measure => simp [intOf]; omega
    · have hlt' : ¬ (k : Int) < (t.length : Int) := by omega
      obtain rfl : k = t.length := by omega
      rw [List.take_length] at A1
      have BW := hide bw
      clear bw
      go_wp2
      go_ret
      exact ⟨BW.out, _, rfl, vs, LAll.base A1.out (by omega)⟩
end Go.Proofs.YtcoofnhdbejnpaaGreatDoor

