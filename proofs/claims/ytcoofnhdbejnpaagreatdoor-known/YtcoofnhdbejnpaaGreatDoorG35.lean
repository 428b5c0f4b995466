/- Package paneskeep: tile. -/
import Derived.Test.YtcoofnhdbejnpaaGreatDoorG22
import Derived.Test.YtcoofnhdbejnpaaGreatDoorG32
namespace Go.Proofs.YtcoofnhdbejnpaaGreatDoor
open Go.RowKit
open Pk (LN Fx gAt vAt LineOk)
theorem Pk.tileQ_step (i m f t at' left : Nat) : Pk.tileQ i m (f + 1) t at' left = if i < at' + (left + m - t) / (m - t + 1) then t else Pk.tileQ i m f (t + 1) (at' + (left + m - t) / (m - t + 1)) (left - (left + m - t) / (m - t + 1)) := rfl
/-- the size of a tile -/
theorem tile_size {m t left : Nat} (ht : t ≤ m) (hm : m < 6) (hl : left ≤ 30) (ht1 : 1 ≤ t) : ((left : Int) + m - t) / ((m : Int) - t + 1) = (((left + m - t) / (m - t + 1) : Nat) : Int) ∧ (left + m - t) / (m - t + 1) ≤ left := by
  have e : ∃ c, c < 5 ∧ m = t + c := ⟨m - t, by omega, by omega⟩
  obtain ⟨c, hc, rfl⟩ := e
  have e1 : left + (t + c) - t = left + c := by omega
  have e2 : t + c - t + 1 = c + 1 := by omega
  have e3 : (left : Int) + ((t + c : Nat) : Int) - t = ((left + c : Nat) : Int) := by omega
  have e4 : ((t + c : Nat) : Int) - t + 1 = ((c + 1 : Nat) : Int) := by omega
  rw [e1, e2, e3, e4]
  refine ⟨rfl, ?_⟩
  have : c = 0 ∨ c = 1 ∨ c = 2 ∨ c = 3 ∨ c = 4 := by omega
  rcases this with rfl | rfl | rfl | rfl | rfl <;> simp <;> omega
set_option maxRecDepth 100000 in
set_option maxHeartbeats 2000000 in
theorem ktile_any {w : World} {sg sv : Value} {L : LN} (hL : LM w sg sv L) {i n : Nat} (hi : i < L.length) (hn : n < 5) :
    Calls Tryz.prog 44 #[lv sg sv, .int .i64 (i : Int), .int .i64 ((n : Int) + 1)] w fun e w' => e = .returned (vv (some ((Pk.tileN L.length i (n + 1) : Nat) : Int))) ∧ Below w.heap.size w w' := by
  obtain ⟨g, off, cap, rfl, hcap⟩ := RdG.form1 hL.rv (by omega)
  obtain ⟨av, cv, rfl⟩ := RdG.sl hL.rg
  have hl := hL.ok.len
  clear hL
  unfold lv
  obtain ⟨m, hm⟩ : ∃ m, m = n + 1 := ⟨_, rfl⟩
  have hm' : (n : Int) + 1 = (m : Int) := by omega
  rw [hm', ← hm]
  have hm1 : 1 ≤ m := by omega
  have hm2 : m < 6 := by omega
  clear hm hm' hn
  go_enter Tryz.func44, Tryz.ntmps44
  go_upto_region 1 with fail
  have C0 := hide (K2.start w #[.slice av L.length cv, .slice (some ⟨g, off, none⟩) L.length cap] 27 #[.bool false, .int .i64 0] 52)
  generalize ((w.alloc (.cells #[.slice av L.length cv, .slice (some ⟨g, off, none⟩) L.length cap] 27)).alloc (.cells #[.bool false, .int .i64 0] 52)) = w0 at *
  have q1 : w0.cell? ⟨w.heap.size, 1, none⟩ = some (.slice (some ⟨g, off, none⟩) L.length cap) := cell_of_heap C0.out.a 1
  have HI : Hid (i < L.length) := hi
  go_wp2
  go_loop [7, 8, 9] (fun le at' tt => ∃ f t a left : Nat, tt = .int .i64 t ∧ at' = .int .i64 a ∧ le = .int .i64 left ∧ t + f = m + 1 ∧ 1 ≤ t ∧ a ≤ 30 * t ∧ left ≤ 30 ∧ Hid (Pk.tileQ i m f t a left = Pk.tileN L.length i m)) (fun _ _ tt => m + 1 - (intOf tt).toNat)
  case atStart => exact ⟨m, 1, 0, L.length, rfl, rfl, rfl, by omega, by omega, by omega, hl, rfl⟩
  case round =>
    obtain ⟨f, t, a, left, rfl, rfl, rfl, h1, h2, h3, h4, HT⟩ := hrel
    cases f with
    | zero =>
      have hle : ¬ (t : Int) ≤ (m : Int) := by omega
      have HZ : Hid (Pk.tileN L.length i m = 0) := HT.out.symm
      go_wp2_with fail
      refine (ksome_any _ _).mono ?_
      rintro e w4 ⟨rfl, e4⟩
      have K4 := C0.out.below e4
      have r : Blk w4 (w.heap.size + 1) #[.bool false, .int .i64 0] 52 := K4.b
      have r0 := r.cell 0
      have r1 := r.cell 1
      have f0 := free_of_heap r 0
      have f1 := free_of_heap r 1
      go_wp2
      obtain ⟨l0, l1⟩ := set2 r (.bool true) (.int .i64 0)
      refine bodyPost_ret (v := .agg #[.bool true, .int .i64 0]) (by simp [results, Tryz.results44, go_sem, l0, l1]) rfl ⟨?_, (K4.bl.setCell (p := ⟨w.heap.size + 1, 0, none⟩) (by simp) _).setCell (p := ⟨w.heap.size + 1, 1, none⟩) (by simp) _⟩
      rw [HZ.out]; rfl
    | succ f =>
      have hle : (t : Int) ≤ (m : Int) := by omega
      have HS := hide (HT.out.symm.trans (Pk.tileQ_step i m f t a left))
      obtain ⟨hq, hq2⟩ := tile_size (m := m) (t := t) (left := left) (by omega) hm2 h4 h2
      generalize (left + m - t) / (m - t + 1) = s at *
      have hd0 : ((m : Int) - t + 1 == 0) = false := by simp; omega
      have hp1 : 0 ≤ (left : Int) + m - t := by omega
      have hp2 : 0 ≤ (m : Int) - t + 1 := by omega
      by_cases hia : i < a + s
      · have HF : Hid (Pk.tileN L.length i m = t) := by show _ = _; rw [HS.out, if_pos hia]
        have hia' : (i : Int) < (a : Int) + s := by omega
        clear HS HT
        go_wp2_with fail
        refine (ksome_any _ _).mono ?_
        rintro e w4 ⟨rfl, e4⟩
        have K4 := C0.out.below e4
        have r : Blk w4 (w.heap.size + 1) #[.bool false, .int .i64 0] 52 := K4.b
        have r0 := r.cell 0
        have r1 := r.cell 1
        have f0 := free_of_heap r 0
        have f1 := free_of_heap r 1
        go_wp2
        obtain ⟨l0, l1⟩ := set2 r (.bool true) (.int .i64 (t : Int))
        refine bodyPost_ret (v := .agg #[.bool true, .int .i64 (t : Int)]) (by simp [results, Tryz.results44, go_sem, l0, l1]) rfl ⟨?_, (K4.bl.setCell (p := ⟨w.heap.size + 1, 0, none⟩) (by simp) _).setCell (p := ⟨w.heap.size + 1, 1, none⟩) (by simp) _⟩
        rw [HF.out]; rfl
      · have HF : Hid (Pk.tileQ i m f (t + 1) (a + s) (left - s) = Pk.tileN L.length i m) := by show _ = _; rw [HS.out, if_neg hia]
        have hia' : ¬ (i : Int) < (a : Int) + s := by omega
        clear HS HT
        go_wp2
        go_round
        case rel => exact ⟨f, t + 1, a + s, left - s, by go_num, by go_num, congrArg (Value.int .i64) (by omega), by omega, by omega, by omega, by omega, HF⟩
        case measure => simp [intOf]; omega
end Go.Proofs.YtcoofnhdbejnpaaGreatDoor

/- Package paneskeep: frame. -/
namespace Go.Proofs.YtcoofnhdbejnpaaGreatDoor
open Go.RowKit
open Pk (LN Fx gAt vAt LineOk nxt adv)
def KFrPost (w : World) (bf : Nat) (s : ByteArray) (e : Ending) (w' : World) : Prop :=
  ∃ (x : Fx) (tk : ByteArray) (a2 : Nat), e = .returned (fv tk x) ∧ x.kind < 5 ∧ x.a < 4 ∧ x.b < 4 ∧ tk.data.toList = Pq.frameTxt (Pk.frmOf x) ∧ FD w' bf s a2 ∧ But (fun k => k = bf) w w'
theorem setB4 {W : World} {b : Nat} {v0 v1 v2 v3 : Value} {T : Nat} (h : Blk W b #[v0, v1, v2, v3] T) (x0 x1 x2 x3 : Value) : Blk ((((W.setCell ⟨b, 0, none⟩ x0).setCell ⟨b, 1, none⟩ x1).setCell ⟨b, 2, none⟩ x2).setCell ⟨b, 3, none⟩ x3) b #[x0, x1, x2, x3] T := by
  have h' : W.heap[b]? = some (.cells #[v0, v1, v2, v3] T (0, 0)) := h
  simp [Blk, World.setCell, Array.getElem?_modify, h']
theorem setB40 {W : World} {b : Nat} {v0 v1 v2 v3 : Value} {T : Nat} (h : Blk W b #[v0, v1, v2, v3] T) (x0 : Value) : Blk (W.setCell ⟨b, 0, none⟩ x0) b #[x0, v1, v2, v3] T := by
  have h' : W.heap[b]? = some (.cells #[v0, v1, v2, v3] T (0, 0)) := h
  simp [Blk, World.setCell, Array.getElem?_modify, h']
set_option maxRecDepth 100000 in
set_option maxHeartbeats 2000000 in
theorem kframe_any {w : World} {bf a : Nat} {s : ByteArray} (h : FD w bf s a) : Calls Tryz.prog 41 #[.pointer (some ⟨bf, 0, none⟩)] w fun e w' => KFrPost w bf s e w' := by
  have H := hide h
  have hbl := h.lt
  clear h
  go_enter Tryz.func41, Tryz.ntmps41
  go_upto_region 1 with fail
  have C0 := hide (K1.start w #[.string ⟨#[]⟩, .int .i64 0, .int .i64 0, .int .i64 0] 98)
  generalize w.alloc (.cells #[.string ⟨#[]⟩, .int .i64 0, .int .i64 0, .int .i64 0] 98) = w0 at *
  have F0 := hide (H.out.below C0.out.bl)
  have hs0 := C0.out.size
  go_wp2_with fail
  refine (fnext3 F0.out 5 5 rfl (by omega) (by omega)).mono ?_
  rintro e w1 ⟨rfl, f1, b1⟩
  have F1 := hide f1
  have U1 := hide b1
  have n1 := Pk.nxt_lt s.data.toList a 5 (by omega)
  generalize adv s.data.toList a = a1 at *
  generalize nxt s.data.toList a 5 = kd at *
  clear f1 b1
  go_wp2_with fail
  refine (fnext3 F1.out 4 4 rfl (by omega) (by omega)).mono ?_
  rintro e w2 ⟨rfl, f2, b2⟩
  have F2 := hide f2
  have U2 := hide (U1.out.same b2)
  have n2 := Pk.nxt_lt s.data.toList a1 4 (by omega)
  generalize adv s.data.toList a1 = a2 at *
  generalize nxt s.data.toList a1 4 = p at *
  clear f2 b2 U1 F1
  go_wp2_with fail
  refine (fnext3 F2.out 4 4 rfl (by omega) (by omega)).mono ?_
  rintro e w3 ⟨rfl, f3, b3⟩
  have F3 := hide f3
  have U3 := hide (U2.out.same b3)
  have n3 := Pk.nxt_lt s.data.toList a2 4 (by omega)
  generalize adv s.data.toList a2 = a3 at *
  generalize nxt s.data.toList a2 4 = q at *
  clear f3 b3 U2 F2
  have R3 : Hid (Blk w3 w.heap.size #[.string ⟨#[]⟩, .int .i64 0, .int .i64 0, .int .i64 0] 98) := blk_but C0.out.a U3.out (by omega)
  go_upto_region 2 with fail
  have D4 : Hid (Blk (w3.alloc (.cells #[.string ⟨#[]⟩, .int .i64 (kd : Int), .int .i64 (p : Int), .int .i64 (q : Int)] 98)) w3.heap.size #[.string ⟨#[]⟩, .int .i64 (kd : Int), .int .i64 (p : Int), .int .i64 (q : Int)] 98) := heap_alloc_new w3 (.cells #[.string ⟨#[]⟩, .int .i64 (kd : Int), .int .i64 (p : Int), .int .i64 (q : Int)] 98)
  have b4 := hide ((Below.refl w3.heap.size w3).alloc (Nat.le_refl _) (.cells #[.string ⟨#[]⟩, .int .i64 (kd : Int), .int .i64 (p : Int), .int .i64 (q : Int)] 98))
  have hs3 := U3.out.size
  generalize w3.alloc (.cells #[.string ⟨#[]⟩, .int .i64 (kd : Int), .int .i64 (p : Int), .int .i64 (q : Int)] 98) = w4 at *
  have F4 := hide (F3.out.below b4.out)
  have U4 := hide ((But.ofB C0.out.bl).same (U3.out.of b4.out))
  have R4 := hide (R3.out.below b4.out)
  generalize hb3 : w3.heap.size = bo at *
  have hbo1 : bo ≠ bf := by omega
  have hbo2 : w.heap.size ≠ bo := by omega
  have hbo3 : w.heap.size ≠ bf := by omega
  have hbo4 : w.heap.size ≤ bo := by omega
  clear hb3 hs3 U3 F3 R3 b4
  have d1 : w4.cell? ⟨bo, 1, none⟩ = some (.int .i64 (kd : Int)) := D4.out.cell 1
  have d2 : w4.cell? ⟨bo, 2, none⟩ = some (.int .i64 (p : Int)) := D4.out.cell 2
  have d3 : w4.cell? ⟨bo, 3, none⟩ = some (.int .i64 (q : Int)) := D4.out.cell 3
  have d0 : w4.cell? ⟨bo, 0, none⟩ = some (.string ⟨#[]⟩) := D4.out.cell 0
  have g0 := free_of_heap D4.out 0
  have lp := Pq.numTxt_len (p : Int)
  have lq := Pq.numTxt_len (q : Int)
  have lr := Pq.numTxt_len (10 * (p : Int) + (q : Int))
  go_wp2_with fail
  refine (itoa_any (p : Int) (by omega) (by omega) _).mono ?_
  rintro e w' ⟨rfl, rfl⟩
  go_wp2_with fail
  refine (itoa_any (q : Int) (by omega) (by omega) _).mono ?_
  rintro e w' ⟨rfl, rfl⟩
  have hor : kd = 0 ∨ kd = 1 ∨ kd = 2 ∨ kd = 3 ∨ kd = 4 := by omega
  rcases hor with rfl | rfl | rfl | rfl | rfl
  · replace d1 : w4.cell? ⟨bo, 1, none⟩ = some (.int .i64 0) := d1
    have R5 : Hid (Blk (w4.setCell ⟨bo, 0, none⟩ (.string ⟨#[97, 108, 108]⟩)) w.heap.size #[.string ⟨#[]⟩, .int .i64 0, .int .i64 0, .int .i64 0] 98) := by
      show _ = _
      rw [set_far _ _ _ _ _ hbo2]; exact R4.out
    have D5 := hide (setB40 D4.out (.string ⟨#[97, 108, 108]⟩))
    have F5 : Hid (FD (w4.setCell ⟨bo, 0, none⟩ (.string ⟨#[97, 108, 108]⟩)) bf s a3) := ⟨by rw [set_far _ _ _ _ _ (Ne.symm hbo1)]; exact F4.out.feed, F4.out.le, F4.out.sz⟩
    have U5 := hide (U4.out.setIn bo 0 (.string ⟨#[97, 108, 108]⟩) (fun h => by omega))
    go_upto_region 14 with fail
    clear d0 d1 d2 d3 g0
    generalize w4.setCell ⟨bo, 0, none⟩ (.string ⟨#[97, 108, 108]⟩) = w5 at *
    have d0 : w5.cell? ⟨bo, 0, none⟩ = some (.string ⟨#[97, 108, 108]⟩) := D5.out.cell 0
    have d1 : w5.cell? ⟨bo, 1, none⟩ = some (.int .i64 0) := D5.out.cell 1
    have d2 : w5.cell? ⟨bo, 2, none⟩ = some (.int .i64 (p : Int)) := D5.out.cell 2
    have d3 : w5.cell? ⟨bo, 3, none⟩ = some (.int .i64 (q : Int)) := D5.out.cell 3
    have r0 := R5.out.cell 0
    have r1 := R5.out.cell 1
    have r2 := R5.out.cell 2
    have r3 := R5.out.cell 3
    have g0 := free_of_heap R5.out 0
    have g1 := free_of_heap R5.out 1
    have g2 := free_of_heap R5.out 2
    have g3 := free_of_heap R5.out 3
    have S7 := hide (setB4 R5.out (.string ⟨#[97, 108, 108]⟩) (.int .i64 0) (.int .i64 (p : Int)) (.int .i64 (q : Int)))
    have l0 := S7.out.cell 0
    have l1 := S7.out.cell 1
    have l2 := S7.out.cell 2
    have l3 := S7.out.cell 3
    go_wp2
    refine bodyPost_ret (v := .agg #[.string ⟨#[97, 108, 108]⟩, .int .i64 0, .int .i64 (p : Int), .int .i64 (q : Int)]) (by simp [results, Tryz.results41, go_sem, l0, l1, l2, l3]) rfl ?_
    refine ⟨⟨0, p, q⟩, ⟨#[97, 108, 108]⟩, a3, rfl, (show 0 < 5 by decide), n2, n3, rfl, ⟨?_, F5.out.le, F5.out.sz⟩, (((U5.out.setIn w.heap.size 0 _ (fun h => by omega)).setIn w.heap.size 1 _ (fun h => by omega)).setIn w.heap.size 2 _ (fun h => by omega)).setIn w.heap.size 3 _ (fun h => by omega)⟩
    rw [set_far _ _ _ _ _ (by omega), set_far _ _ _ _ _ (by omega), set_far _ _ _ _ _ (by omega), set_far _ _ _ _ _ (by omega)]; exact F5.out.feed
  · replace d1 : w4.cell? ⟨bo, 1, none⟩ = some (.int .i64 1) := d1
    have R5 : Hid (Blk (w4.setCell ⟨bo, 0, none⟩ (.string ⟨#[112, 101, 101, 114, 115]⟩)) w.heap.size #[.string ⟨#[]⟩, .int .i64 0, .int .i64 0, .int .i64 0] 98) := by
      show _ = _
      rw [set_far _ _ _ _ _ hbo2]; exact R4.out
    have D5 := hide (setB40 D4.out (.string ⟨#[112, 101, 101, 114, 115]⟩))
    have F5 : Hid (FD (w4.setCell ⟨bo, 0, none⟩ (.string ⟨#[112, 101, 101, 114, 115]⟩)) bf s a3) := ⟨by rw [set_far _ _ _ _ _ (Ne.symm hbo1)]; exact F4.out.feed, F4.out.le, F4.out.sz⟩
    have U5 := hide (U4.out.setIn bo 0 (.string ⟨#[112, 101, 101, 114, 115]⟩) (fun h => by omega))
    go_upto_region 14 with fail
    clear d0 d1 d2 d3 g0
    generalize w4.setCell ⟨bo, 0, none⟩ (.string ⟨#[112, 101, 101, 114, 115]⟩) = w5 at *
    have d0 : w5.cell? ⟨bo, 0, none⟩ = some (.string ⟨#[112, 101, 101, 114, 115]⟩) := D5.out.cell 0
    have d1 : w5.cell? ⟨bo, 1, none⟩ = some (.int .i64 1) := D5.out.cell 1
    have d2 : w5.cell? ⟨bo, 2, none⟩ = some (.int .i64 (p : Int)) := D5.out.cell 2
    have d3 : w5.cell? ⟨bo, 3, none⟩ = some (.int .i64 (q : Int)) := D5.out.cell 3
    have r0 := R5.out.cell 0
    have r1 := R5.out.cell 1
    have r2 := R5.out.cell 2
    have r3 := R5.out.cell 3
    have g0 := free_of_heap R5.out 0
    have g1 := free_of_heap R5.out 1
    have g2 := free_of_heap R5.out 2
    have g3 := free_of_heap R5.out 3
    have S7 := hide (setB4 R5.out (.string ⟨#[112, 101, 101, 114, 115]⟩) (.int .i64 1) (.int .i64 (p : Int)) (.int .i64 (q : Int)))
    have l0 := S7.out.cell 0
    have l1 := S7.out.cell 1
    have l2 := S7.out.cell 2
    have l3 := S7.out.cell 3
    go_wp2
    refine bodyPost_ret (v := .agg #[.string ⟨#[112, 101, 101, 114, 115]⟩, .int .i64 1, .int .i64 (p : Int), .int .i64 (q : Int)]) (by simp [results, Tryz.results41, go_sem, l0, l1, l2, l3]) rfl ?_
    refine ⟨⟨1, p, q⟩, ⟨#[112, 101, 101, 114, 115]⟩, a3, rfl, (show 1 < 5 by decide), n2, n3, rfl, ⟨?_, F5.out.le, F5.out.sz⟩, (((U5.out.setIn w.heap.size 0 _ (fun h => by omega)).setIn w.heap.size 1 _ (fun h => by omega)).setIn w.heap.size 2 _ (fun h => by omega)).setIn w.heap.size 3 _ (fun h => by omega)⟩
    rw [set_far _ _ _ _ _ (by omega), set_far _ _ _ _ _ (by omega), set_far _ _ _ _ _ (by omega), set_far _ _ _ _ _ (by omega)]; exact F5.out.feed
  · replace d1 : w4.cell? ⟨bo, 1, none⟩ = some (.int .i64 2) := d1
    go_wp2_with fail
    refine (itoa_any (10 * (p : Int) + (q : Int)) (by omega) (by omega) _).mono ?_
    rintro e w' ⟨rfl, rfl⟩
    have HX : Hid (((⟨#[110, 101, 97, 114, 32]⟩ ++ ⟨(Pq.numTxt (10 * (p : Int) + (q : Int))).toArray⟩) : ByteArray).data.toList = Pq.frameTxt (Pk.frmOf ⟨2, p, q⟩)) := by
      show _ = _
      simp [Pk.frmOf, Pq.frameTxt, Pq.wNear]
    have R5 : Hid (Blk (w4.setCell ⟨bo, 0, none⟩ (.string (⟨#[110, 101, 97, 114, 32]⟩ ++ ⟨(Pq.numTxt (10 * (p : Int) + (q : Int))).toArray⟩))) w.heap.size #[.string ⟨#[]⟩, .int .i64 0, .int .i64 0, .int .i64 0] 98) := by
      show _ = _
      rw [set_far _ _ _ _ _ hbo2]; exact R4.out
    have D5 := hide (setB40 D4.out (.string (⟨#[110, 101, 97, 114, 32]⟩ ++ ⟨(Pq.numTxt (10 * (p : Int) + (q : Int))).toArray⟩)))
    have F5 : Hid (FD (w4.setCell ⟨bo, 0, none⟩ (.string (⟨#[110, 101, 97, 114, 32]⟩ ++ ⟨(Pq.numTxt (10 * (p : Int) + (q : Int))).toArray⟩))) bf s a3) := ⟨by rw [set_far _ _ _ _ _ (Ne.symm hbo1)]; exact F4.out.feed, F4.out.le, F4.out.sz⟩
    have U5 := hide (U4.out.setIn bo 0 (.string (⟨#[110, 101, 97, 114, 32]⟩ ++ ⟨(Pq.numTxt (10 * (p : Int) + (q : Int))).toArray⟩)) (fun h => by omega))
    go_upto_region 14 with fail
    clear d0 d1 d2 d3 g0
    generalize w4.setCell ⟨bo, 0, none⟩ (.string (⟨#[110, 101, 97, 114, 32]⟩ ++ ⟨(Pq.numTxt (10 * (p : Int) + (q : Int))).toArray⟩)) = w5 at *
    generalize ((⟨#[110, 101, 97, 114, 32]⟩ ++ ⟨(Pq.numTxt (10 * (p : Int) + (q : Int))).toArray⟩) : ByteArray) = tk at *
    have d0 : w5.cell? ⟨bo, 0, none⟩ = some (.string tk) := D5.out.cell 0
    have d1 : w5.cell? ⟨bo, 1, none⟩ = some (.int .i64 2) := D5.out.cell 1
    have d2 : w5.cell? ⟨bo, 2, none⟩ = some (.int .i64 (p : Int)) := D5.out.cell 2
    have d3 : w5.cell? ⟨bo, 3, none⟩ = some (.int .i64 (q : Int)) := D5.out.cell 3
    have r0 := R5.out.cell 0
    have r1 := R5.out.cell 1
    have r2 := R5.out.cell 2
    have r3 := R5.out.cell 3
    have g0 := free_of_heap R5.out 0
    have g1 := free_of_heap R5.out 1
    have g2 := free_of_heap R5.out 2
    have g3 := free_of_heap R5.out 3
    have S7 := hide (setB4 R5.out (.string tk) (.int .i64 2) (.int .i64 (p : Int)) (.int .i64 (q : Int)))
    have l0 := S7.out.cell 0
    have l1 := S7.out.cell 1
    have l2 := S7.out.cell 2
    have l3 := S7.out.cell 3
    go_wp2
    refine bodyPost_ret (v := .agg #[.string tk, .int .i64 2, .int .i64 (p : Int), .int .i64 (q : Int)]) (by simp [results, Tryz.results41, go_sem, l0, l1, l2, l3]) rfl ?_
    refine ⟨⟨2, p, q⟩, tk, a3, rfl, (show 2 < 5 by decide), n2, n3, HX.out, ⟨?_, F5.out.le, F5.out.sz⟩, (((U5.out.setIn w.heap.size 0 _ (fun h => by omega)).setIn w.heap.size 1 _ (fun h => by omega)).setIn w.heap.size 2 _ (fun h => by omega)).setIn w.heap.size 3 _ (fun h => by omega)⟩
    rw [set_far _ _ _ _ _ (by omega), set_far _ _ _ _ _ (by omega), set_far _ _ _ _ _ (by omega), set_far _ _ _ _ _ (by omega)]; exact F5.out.feed
  · replace d1 : w4.cell? ⟨bo, 1, none⟩ = some (.int .i64 3) := d1
    have HX : Hid (((⟨(Pq.numTxt (p : Int)).toArray⟩ ++ ⟨#[32, 98, 97, 99, 107, 32, 116, 111, 32]⟩ ++ ⟨(Pq.numTxt (q : Int)).toArray⟩ ++ ⟨#[32, 111, 110]⟩) : ByteArray).data.toList = Pq.frameTxt (Pk.frmOf ⟨3, p, q⟩)) := by
      show _ = _
      simp [Pk.frmOf, Pq.frameTxt, Pq.edgeTxt, Pq.wTo, Pq.wBack, Pq.wOn]
    have R5 : Hid (Blk (w4.setCell ⟨bo, 0, none⟩ (.string (⟨(Pq.numTxt (p : Int)).toArray⟩ ++ ⟨#[32, 98, 97, 99, 107, 32, 116, 111, 32]⟩ ++ ⟨(Pq.numTxt (q : Int)).toArray⟩ ++ ⟨#[32, 111, 110]⟩))) w.heap.size #[.string ⟨#[]⟩, .int .i64 0, .int .i64 0, .int .i64 0] 98) := by
      show _ = _
      rw [set_far _ _ _ _ _ hbo2]; exact R4.out
    have D5 := hide (setB40 D4.out (.string (⟨(Pq.numTxt (p : Int)).toArray⟩ ++ ⟨#[32, 98, 97, 99, 107, 32, 116, 111, 32]⟩ ++ ⟨(Pq.numTxt (q : Int)).toArray⟩ ++ ⟨#[32, 111, 110]⟩)))
    have F5 : Hid (FD (w4.setCell ⟨bo, 0, none⟩ (.string (⟨(Pq.numTxt (p : Int)).toArray⟩ ++ ⟨#[32, 98, 97, 99, 107, 32, 116, 111, 32]⟩ ++ ⟨(Pq.numTxt (q : Int)).toArray⟩ ++ ⟨#[32, 111, 110]⟩))) bf s a3) := ⟨by rw [set_far _ _ _ _ _ (Ne.symm hbo1)]; exact F4.out.feed, F4.out.le, F4.out.sz⟩
    have U5 := hide (U4.out.setIn bo 0 (.string (⟨(Pq.numTxt (p : Int)).toArray⟩ ++ ⟨#[32, 98, 97, 99, 107, 32, 116, 111, 32]⟩ ++ ⟨(Pq.numTxt (q : Int)).toArray⟩ ++ ⟨#[32, 111, 110]⟩)) (fun h => by omega))
    go_upto_region 14 with fail
    clear d0 d1 d2 d3 g0
    generalize w4.setCell ⟨bo, 0, none⟩ (.string (⟨(Pq.numTxt (p : Int)).toArray⟩ ++ ⟨#[32, 98, 97, 99, 107, 32, 116, 111, 32]⟩ ++ ⟨(Pq.numTxt (q : Int)).toArray⟩ ++ ⟨#[32, 111, 110]⟩)) = w5 at *
    generalize ((⟨(Pq.numTxt (p : Int)).toArray⟩ ++ ⟨#[32, 98, 97, 99, 107, 32, 116, 111, 32]⟩ ++ ⟨(Pq.numTxt (q : Int)).toArray⟩ ++ ⟨#[32, 111, 110]⟩) : ByteArray) = tk at *
    have d0 : w5.cell? ⟨bo, 0, none⟩ = some (.string tk) := D5.out.cell 0
    have d1 : w5.cell? ⟨bo, 1, none⟩ = some (.int .i64 3) := D5.out.cell 1
    have d2 : w5.cell? ⟨bo, 2, none⟩ = some (.int .i64 (p : Int)) := D5.out.cell 2
    have d3 : w5.cell? ⟨bo, 3, none⟩ = some (.int .i64 (q : Int)) := D5.out.cell 3
    have r0 := R5.out.cell 0
    have r1 := R5.out.cell 1
    have r2 := R5.out.cell 2
    have r3 := R5.out.cell 3
    have g0 := free_of_heap R5.out 0
    have g1 := free_of_heap R5.out 1
    have g2 := free_of_heap R5.out 2
    have g3 := free_of_heap R5.out 3
    have S7 := hide (setB4 R5.out (.string tk) (.int .i64 3) (.int .i64 (p : Int)) (.int .i64 (q : Int)))
    have l0 := S7.out.cell 0
    have l1 := S7.out.cell 1
    have l2 := S7.out.cell 2
    have l3 := S7.out.cell 3
    go_wp2
    refine bodyPost_ret (v := .agg #[.string tk, .int .i64 3, .int .i64 (p : Int), .int .i64 (q : Int)]) (by simp [results, Tryz.results41, go_sem, l0, l1, l2, l3]) rfl ?_
    refine ⟨⟨3, p, q⟩, tk, a3, rfl, (show 3 < 5 by decide), n2, n3, HX.out, ⟨?_, F5.out.le, F5.out.sz⟩, (((U5.out.setIn w.heap.size 0 _ (fun h => by omega)).setIn w.heap.size 1 _ (fun h => by omega)).setIn w.heap.size 2 _ (fun h => by omega)).setIn w.heap.size 3 _ (fun h => by omega)⟩
    rw [set_far _ _ _ _ _ (by omega), set_far _ _ _ _ _ (by omega), set_far _ _ _ _ _ (by omega), set_far _ _ _ _ _ (by omega)]; exact F5.out.feed
  · replace d1 : w4.cell? ⟨bo, 1, none⟩ = some (.int .i64 4) := d1
    have HX : Hid (((⟨(Pq.numTxt (p : Int)).toArray⟩ ++ ⟨#[32, 111, 110, 32, 116, 111, 32]⟩ ++ ⟨(Pq.numTxt (q : Int)).toArray⟩ ++ ⟨#[32, 98, 97, 99, 107]⟩) : ByteArray).data.toList = Pq.frameTxt (Pk.frmOf ⟨4, p, q⟩)) := by
      show _ = _
      simp [Pk.frmOf, Pq.frameTxt, Pq.edgeTxt, Pq.wTo, Pq.wBack, Pq.wOn]
    have R5 : Hid (Blk (w4.setCell ⟨bo, 0, none⟩ (.string (⟨(Pq.numTxt (p : Int)).toArray⟩ ++ ⟨#[32, 111, 110, 32, 116, 111, 32]⟩ ++ ⟨(Pq.numTxt (q : Int)).toArray⟩ ++ ⟨#[32, 98, 97, 99, 107]⟩))) w.heap.size #[.string ⟨#[]⟩, .int .i64 0, .int .i64 0, .int .i64 0] 98) := by
      show _ = _
      rw [set_far _ _ _ _ _ hbo2]; exact R4.out
    have D5 := hide (setB40 D4.out (.string (⟨(Pq.numTxt (p : Int)).toArray⟩ ++ ⟨#[32, 111, 110, 32, 116, 111, 32]⟩ ++ ⟨(Pq.numTxt (q : Int)).toArray⟩ ++ ⟨#[32, 98, 97, 99, 107]⟩)))
    have F5 : Hid (FD (w4.setCell ⟨bo, 0, none⟩ (.string (⟨(Pq.numTxt (p : Int)).toArray⟩ ++ ⟨#[32, 111, 110, 32, 116, 111, 32]⟩ ++ ⟨(Pq.numTxt (q : Int)).toArray⟩ ++ ⟨#[32, 98, 97, 99, 107]⟩))) bf s a3) := ⟨by rw [set_far _ _ _ _ _ (Ne.symm hbo1)]; exact F4.out.feed, F4.out.le, F4.out.sz⟩
    have U5 := hide (U4.out.setIn bo 0 (.string (⟨(Pq.numTxt (p : Int)).toArray⟩ ++ ⟨#[32, 111, 110, 32, 116, 111, 32]⟩ ++ ⟨(Pq.numTxt (q : Int)).toArray⟩ ++ ⟨#[32, 98, 97, 99, 107]⟩)) (fun h => by omega))
    go_upto_region 14 with fail
    clear d0 d1 d2 d3 g0
    generalize w4.setCell ⟨bo, 0, none⟩ (.string (⟨(Pq.numTxt (p : Int)).toArray⟩ ++ ⟨#[32, 111, 110, 32, 116, 111, 32]⟩ ++ ⟨(Pq.numTxt (q : Int)).toArray⟩ ++ ⟨#[32, 98, 97, 99, 107]⟩)) = w5 at *
    generalize ((⟨(Pq.numTxt (p : Int)).toArray⟩ ++ ⟨#[32, 111, 110, 32, 116, 111, 32]⟩ ++ ⟨(Pq.numTxt (q : Int)).toArray⟩ ++ ⟨#[32, 98, 97, 99, 107]⟩) : ByteArray) = tk at *
    have d0 : w5.cell? ⟨bo, 0, none⟩ = some (.string tk) := D5.out.cell 0
    have d1 : w5.cell? ⟨bo, 1, none⟩ = some (.int .i64 4) := D5.out.cell 1
    have d2 : w5.cell? ⟨bo, 2, none⟩ = some (.int .i64 (p : Int)) := D5.out.cell 2
    have d3 : w5.cell? ⟨bo, 3, none⟩ = some (.int .i64 (q : Int)) := D5.out.cell 3
    have r0 := R5.out.cell 0
    have r1 := R5.out.cell 1
    have r2 := R5.out.cell 2
    have r3 := R5.out.cell 3
    have g0 := free_of_heap R5.out 0
    have g1 := free_of_heap R5.out 1
    have g2 := free_of_heap R5.out 2
    have g3 := free_of_heap R5.out 3
    have S7 := hide (setB4 R5.out (.string tk) (.int .i64 4) (.int .i64 (p : Int)) (.int .i64 (q : Int)))
    have l0 := S7.out.cell 0
    have l1 := S7.out.cell 1
    have l2 := S7.out.cell 2
    have l3 := S7.out.cell 3
    go_wp2
    refine bodyPost_ret (v := .agg #[.string tk, .int .i64 4, .int .i64 (p : Int), .int .i64 (q : Int)]) (by simp [results, Tryz.results41, go_sem, l0, l1, l2, l3]) rfl ?_
    refine ⟨⟨4, p, q⟩, tk, a3, rfl, (show 4 < 5 by decide), n2, n3, HX.out, ⟨?_, F5.out.le, F5.out.sz⟩, (((U5.out.setIn w.heap.size 0 _ (fun h => by omega)).setIn w.heap.size 1 _ (fun h => by omega)).setIn w.heap.size 2 _ (fun h => by omega)).setIn w.heap.size 3 _ (fun h => by omega)⟩
    rw [set_far _ _ _ _ _ (by omega), set_far _ _ _ _ _ (by omega), set_far _ _ _ _ _ (by omega), set_far _ _ _ _ _ (by omega)]; exact F5.out.feed
end Go.Proofs.YtcoofnhdbejnpaaGreatDoor

