/- Package queries: readFuncs. -/
import Derived.Deep.RegionLaw
import Derived.Test.YtcoofnhdbejnpaaGreatDoorG18
namespace Go.Proofs.YtcoofnhdbejnpaaGreatDoor
open Go.RowKit
theorem infoFn : (Tryz.prog.info? 223).map (fun i => (i.zero, i.size, i.bytes)) = some (some (.agg #[.int .i64 0, .int .i64 0, .int .i64 0, .int .i64 0, .int .i64 0, .int .i64 0, .int .i64 0, .int .i64 0, .int .i64 0]), 9, 72) := by kernel_rfl
set_option maxHeartbeats 4000000 in
theorem readFuncs_any {w : World} {B b g cap len : Nat} {toks : List Pq.Tok} {vb vk vf : Value} {s : Pq.PS} (h : PAl w B b g cap len toks vb vk vf s) (hl : s.funcs.length ≤ s.next) :
    Calls Tryz.prog 128 #[.pointer (some ⟨b, 0, none⟩)] w fun e w' => e = .returned (.tuple #[]) ∧ (∃ vb vk vf, PAl w' B b g cap len toks vb vk vf (Pq.funR toks len s)) ∧ Below B w w' := by
  obtain ⟨i0, hi, hz0, hz1, hz2⟩ := info_parts infoFn
  have H := hide h
  have hl' := hide hl
  clear h hl
  go_enter Tryz.func128, Tryz.ntmps128
  go_wp2
  go_loopw [2] (fun m wr => ∃ (mb : Bool) (s' : Pq.PS) (vb' vk' vf' : Value), m = .bool mb ∧ Hid (PAl wr B b g cap len toks vb' vk' vf' s') ∧ Below B w wr ∧ Hid (ByRel (Pq.funR toks len) mb s s') ∧ Hid (mb = true → s'.funcs.length ≤ s'.next)) (fun m wr => moreM toks.length m (nextAt wr b))
  case atStart => exact ⟨true, s, vb, vk, vf, rfl, H.out, Below.refl _ _, rfl, fun _ => hl'.out⟩
  case round =>
    obtain ⟨mb, s', vb', vk', vf', rfl, HA, hbel, HR, HLN⟩ := hrel
    cases mb
    · go_wp2
      go_end0
      have hr : Pq.funR toks len s = s' := HR.out
      rw [hr]
      exact ⟨rfl, ⟨_, _, _, HA.out⟩, hbel⟩
    · have hln := HLN.out rfl
      have hR' : Pq.funR toks len s = Pq.funR toks len s' := HR.out
      clear HLN HR
      have HR := hide hR'
      clear hR'
      have hle2 := HA.out.pin.le
      have hbd2 := HA.out.pin.bd
      have c6 := HA.out.pin.cells3.2.2
      rcases own_form HA.out.ofun with ⟨rfl, h0⟩ | ⟨gf, capf, rfl⟩
      · have H0 := hide h0
        clear h0
        have HM : Hid (Pq.funMark toks len s' = s') := by show _ = _; simp only [Pq.funMark, H0.out]; rfl
        have HS2 : Hid (Pq.funStep toks len s' = { (Pq.funcR toks len (Pq.funMark toks len s')).2 with funcs := s'.funcs ++ [(Pq.funcR toks len (Pq.funMark toks len s')).1] }) := hide rfl
        have HB : Hid ((Pq.funMark toks len s').funcs = s'.funcs) := by show _ = _; rw [HM.out]
        have HSN : Hid ((Pq.funMark toks len s').next = s'.next) := by show _ = _; rw [HM.out]
        have A3o := HA
        have B3 := hbel
        have A3 : Hid (PAl wr B b g cap len toks vb' vk' (Value.slice none 0 0) (Pq.funMark toks len s')) := by rw [HM.out]; exact A3o
        clear HM A3o
        generalize Pq.funMark toks len s' = sm at *
        go_wp2_with fail
        refine (readFunc_any A3.out.pin).mono ?_
        rintro e w4 ⟨rfl, h4, g4⟩
        have A4 := hide (A3.out.moved h4 g4 (Pq.same_func _ _ _).by' (Pq.same_func _ _ _).keys (Pq.same_func _ _ _).funcs (Pq.funcR_next _ _ _))
        have B4 := B3.trans (g4.below A3.out.hB A3.out.pin.lt.1)
        have HFF := hide (Pq.same_func toks len sm).funcs
        have HFN := hide (Pq.funcR_next toks len sm)
        clear h4 g4
        generalize Pq.funcR toks len sm = fr at *
        go_wp2_with fail
        have A5 := hide (A4.out.moved (A4.out.pin.alloc (.cells #[.int .i64 (fr.1.kind : Int), .int .i64 (fr.1.col : Int), .int .i64 fr.1.num, .int .i64 (fr.1.frame.kind : Int), .int .i64 fr.1.frame.num, .int .i64 (fr.1.frame.frm.kind : Int), .int .i64 fr.1.frame.frm.num, .int .i64 (fr.1.frame.to.kind : Int), .int .i64 fr.1.frame.to.num] 223)) ((Gb.refl b w4).alloc (.cells #[.int .i64 (fr.1.kind : Int), .int .i64 (fr.1.col : Int), .int .i64 fr.1.num, .int .i64 (fr.1.frame.kind : Int), .int .i64 fr.1.frame.num, .int .i64 (fr.1.frame.frm.kind : Int), .int .i64 fr.1.frame.frm.num, .int .i64 (fr.1.frame.to.kind : Int), .int .i64 fr.1.frame.to.num] 223)) rfl rfl rfl (Nat.le_refl _))
        have hB4 : B ≤ w4.heap.size := by have := A4.out.hB; have := A4.out.pin.lt.1; omega
        have B5 := B4.alloc hB4 (.cells #[.int .i64 (fr.1.kind : Int), .int .i64 (fr.1.col : Int), .int .i64 fr.1.num, .int .i64 (fr.1.frame.kind : Int), .int .i64 fr.1.frame.num, .int .i64 (fr.1.frame.frm.kind : Int), .int .i64 fr.1.frame.frm.num, .int .i64 (fr.1.frame.to.kind : Int), .int .i64 fr.1.frame.to.num] 223)
        have L5 := hide (heap_alloc_new w4 (.cells #[.int .i64 (fr.1.kind : Int), .int .i64 (fr.1.col : Int), .int .i64 fr.1.num, .int .i64 (fr.1.frame.kind : Int), .int .i64 fr.1.frame.num, .int .i64 (fr.1.frame.frm.kind : Int), .int .i64 fr.1.frame.frm.num, .int .i64 (fr.1.frame.to.kind : Int), .int .i64 fr.1.frame.to.num] 223))
        have hc5 : w4.heap.size < (w4.alloc (.cells #[.int .i64 (fr.1.kind : Int), .int .i64 (fr.1.col : Int), .int .i64 fr.1.num, .int .i64 (fr.1.frame.kind : Int), .int .i64 fr.1.frame.num, .int .i64 (fr.1.frame.frm.kind : Int), .int .i64 fr.1.frame.frm.num, .int .i64 (fr.1.frame.to.kind : Int), .int .i64 fr.1.frame.to.num] 223)).heap.size := by simp
        have hcn : ((Value.slice none 0 0)).ownBlock ≠ some w4.heap.size := by intro e; obtain ⟨cur, hcur, _⟩ := own_block A4.out.ofun e; have := (Array.getElem?_eq_some_iff.1 hcur).1; omega
        clear A3 B3 A4 B4
        generalize w4.heap.size = c at *
        generalize w4.alloc (.cells #[.int .i64 (fr.1.kind : Int), .int .i64 (fr.1.col : Int), .int .i64 fr.1.num, .int .i64 (fr.1.frame.kind : Int), .int .i64 fr.1.frame.num, .int .i64 (fr.1.frame.frm.kind : Int), .int .i64 fr.1.frame.frm.num, .int .i64 (fr.1.frame.to.kind : Int), .int .i64 fr.1.frame.to.num] 223) = w5 at *
        have hBs := A5.out.pin.lt.1
        have hB5 : B ≤ w5.heap.size := by have := A5.out.hB; omega
        have hown5 := A5.out.ofun
        have d6 := A5.out.pin.cells3.2.2
        have hle5 := A5.out.pin.le
        have hbd5 := A5.out.pin.bd
        have hl5 : fr.2.funcs.length ≤ fr.2.next := by have h1 := HFN.out; have h2 := HSN.out; rw [HFF.out, HB.out]; omega
        have x0 := cell_of_heap L5.out 0
        have x0 : w5.cell? ⟨c, 0, none⟩ = some (.int .i64 (fr.1.kind : Int)) := x0
        have x1 := cell_of_heap L5.out 1
        have x1 : w5.cell? ⟨c, 1, none⟩ = some (.int .i64 (fr.1.col : Int)) := x1
        have x2 := cell_of_heap L5.out 2
        have x2 : w5.cell? ⟨c, 2, none⟩ = some (.int .i64 fr.1.num) := x2
        have x3 := cell_of_heap L5.out 3
        have x3 : w5.cell? ⟨c, 3, none⟩ = some (.int .i64 (fr.1.frame.kind : Int)) := x3
        have x4 := cell_of_heap L5.out 4
        have x4 : w5.cell? ⟨c, 4, none⟩ = some (.int .i64 fr.1.frame.num) := x4
        have x5 := cell_of_heap L5.out 5
        have x5 : w5.cell? ⟨c, 5, none⟩ = some (.int .i64 (fr.1.frame.frm.kind : Int)) := x5
        have x6 := cell_of_heap L5.out 6
        have x6 : w5.cell? ⟨c, 6, none⟩ = some (.int .i64 fr.1.frame.frm.num) := x6
        have x7 := cell_of_heap L5.out 7
        have x7 : w5.cell? ⟨c, 7, none⟩ = some (.int .i64 (fr.1.frame.to.kind : Int)) := x7
        have x8 := cell_of_heap L5.out 8
        have x8 : w5.cell? ⟨c, 8, none⟩ = some (.int .i64 fr.1.frame.to.num) := x8
        go_region_law (refine step_append_lies _ rfl (.tmp 26) (.tmp 28) 110 rfl B 223 i0 _ 9 72 Tryz.underlying110 hi hz0 hz1 hz2 rfl (by decide) _ fr.2.funcs.length (fnCells fr.2.funcs) rfl (hown5.alloc _).drew _ 1 1 [.int .i64 (fr.1.kind : Int), .int .i64 (fr.1.col : Int), .int .i64 fr.1.num, .int .i64 (fr.1.frame.kind : Int), .int .i64 fr.1.frame.num, .int .i64 (fr.1.frame.frm.kind : Int), .int .i64 fr.1.frame.frm.num, .int .i64 (fr.1.frame.to.kind : Int), .int .i64 fr.1.frame.to.num] rfl rfl (World.news_of_block (heap_alloc_new _ _)) (by intro u hu; simp at hu; rcases hu with rfl | rfl | rfl | rfl | rfl | rfl | rfl | rfl | rfl <;> rfl) (by decide) (by unfold maxLen; omega) (by omega) (by simp; omega) _ rfl ?_; intro g6 cap6 w6 hown6 hgrow6 hat6 hlt6; obtain ⟨p6, A7, B7⟩ := A5.out.pushFun _ fr.1 hown6 hgrow6 hl5 hB5; have d6' := p6.cells3.2.2; have z6 := p6.frozen 6; have HA7 := hide A7; have HB7 := hide B7; clear A7 B7 p6 hown6 hgrow6 hat6 hlt6)
        all_goals
          go_wp2_with (go_at_call 124; refine (take_any HA7.out.pin Pq.wComma).mono ?_; rintro e w8 ⟨rfl, h8, g8⟩; have H8 := hide (HA7.out.moved h8 g8 (Pq.same_take _ _ _).by' (Pq.same_take _ _ _).keys (Pq.same_take _ _ _).funcs (Pq.takeS_next _ _ _)); have B8 := (B5.trans HB7.out).trans (g8.below HA7.out.hB HA7.out.pin.lt.1); clear h8 g8)
          have HST : Hid (Pq.funStep toks len s' = { fr.2 with funcs := fr.2.funcs ++ [fr.1] }) := by show _ = _; rw [HS2.out, HFF.out, HB.out]
          go_roundw
          case rel =>
            rw [← HST.out] at H8 ⊢
            cases ht : Pq.takes toks Pq.wComma (Pq.funStep toks len s')
            · rw [Pq.takeS_no ht] at H8
              refine ⟨false, _, _, _, _, rfl, H8.out, B8, ?_, fun h => by cases h⟩
              show _ = _
              rw [HR.out, Pq.funR_eq, dif_neg (by simp [ht])]
            · have e : Pq.takeS toks Pq.wComma (Pq.funStep toks len s') = (Pq.funStep toks len s').step := by simp [Pq.takeS, ht]
              rw [e] at H8
              refine ⟨true, _, _, _, _, rfl, H8.out, B8, ?_, fun _ => ?_⟩
              · show _ = _
                rw [HR.out, Pq.funR_eq, dif_pos ht]
              · rw [HST.out]; simp only [Pq.PS.step, List.length_append, List.length_cons, List.length_nil]; omega
          case measure =>
            have e1 := H8.out.pin.nextAt
            have e2 := HA.out.pin.nextAt
            have e3 := H8.out.pin.le
            have e4 := HA.out.pin.le
            have e5 := HFN.out
            have e6 := HSN.out
            clear H8 HA A5 HA7
            cases ht : Pq.takes toks Pq.wComma { fr.2 with funcs := fr.2.funcs ++ [fr.1] }
            · simp [moreM, e2]; omega
            · simp only [Pq.takeS, ht, if_true, Pq.PS.step] at e1 e3
              simp [moreM, e1, e2]; omega

      · by_cases h4 : s'.funcs.length = 4
        · have h4' : ((s'.funcs.length : Int) == 4) = true := by rw [h4]; rfl
          have H4 := hide h4
          clear h4
          have HM : Hid (Pq.funMark toks len s' = { s' with many := Pq.placeS toks len s' }) := by show _ = _; simp only [Pq.funMark, H4.out, if_true]
          have HS2 : Hid (Pq.funStep toks len s' = { (Pq.funcR toks len (Pq.funMark toks len s')).2 with funcs := s'.funcs ++ [(Pq.funcR toks len (Pq.funMark toks len s')).1] }) := hide rfl
          have HB : Hid ((Pq.funMark toks len s').funcs = s'.funcs) := by show _ = _; rw [HM.out]
          have HSN : Hid ((Pq.funMark toks len s').next = s'.next) := by show _ = _; rw [HM.out]
          go_wp2_with fail
          refine (place_any HA.out.pin).mono ?_
          rintro e w1 ⟨rfl, nq, rfl⟩
          have A1 := hide (HA.out.moved (HA.out.pin.drewN nq) ((Gb.refl b wr).drewN nq) rfl rfl rfl (Nat.le_refl _))
          have B1 : Below B w (wr.drewN nq) := below_drewN hbel nq
          clear c6
          generalize wr.drewN nq = w1 at *
          have f10 := A1.out.pin.frozen 10
          have c10 := A1.out.pin.cells2.1
          have A3o := hide (A1.out.moved (A1.out.pin.set 10 (.int .i64 (Pq.placeS toks len s')) { s' with many := Pq.placeS toks len s' } _ _ _ (by simp [psCells]) A1.out.pin.le) ((Gb.refl b w1).set 10 (.int .i64 (Pq.placeS toks len s'))) rfl rfl rfl (Nat.le_refl _))
          have B3 := B1.setCell (p := ⟨b, 10, none⟩) A1.out.hB (.int .i64 (Pq.placeS toks len s'))
          have A3 : Hid (PAl (w1.setCell ⟨b, 10, none⟩ (.int .i64 (Pq.placeS toks len s'))) B b g cap len toks vb' vk' (Value.slice (some ⟨gf, 0, none⟩) s'.funcs.length capf) (Pq.funMark toks len s')) := by rw [HM.out]; exact A3o
          clear HM A3o
          generalize Pq.funMark toks len s' = sm at *
          go_wp2_with fail
          refine (readFunc_any A3.out.pin).mono ?_
          rintro e w4 ⟨rfl, h4, g4⟩
          have A4 := hide (A3.out.moved h4 g4 (Pq.same_func _ _ _).by' (Pq.same_func _ _ _).keys (Pq.same_func _ _ _).funcs (Pq.funcR_next _ _ _))
          have B4 := B3.trans (g4.below A3.out.hB A3.out.pin.lt.1)
          have HFF := hide (Pq.same_func toks len sm).funcs
          have HFN := hide (Pq.funcR_next toks len sm)
          clear h4 g4
          generalize Pq.funcR toks len sm = fr at *
          go_wp2_with fail
          have A5 := hide (A4.out.moved (A4.out.pin.alloc (.cells #[.int .i64 (fr.1.kind : Int), .int .i64 (fr.1.col : Int), .int .i64 fr.1.num, .int .i64 (fr.1.frame.kind : Int), .int .i64 fr.1.frame.num, .int .i64 (fr.1.frame.frm.kind : Int), .int .i64 fr.1.frame.frm.num, .int .i64 (fr.1.frame.to.kind : Int), .int .i64 fr.1.frame.to.num] 223)) ((Gb.refl b w4).alloc (.cells #[.int .i64 (fr.1.kind : Int), .int .i64 (fr.1.col : Int), .int .i64 fr.1.num, .int .i64 (fr.1.frame.kind : Int), .int .i64 fr.1.frame.num, .int .i64 (fr.1.frame.frm.kind : Int), .int .i64 fr.1.frame.frm.num, .int .i64 (fr.1.frame.to.kind : Int), .int .i64 fr.1.frame.to.num] 223)) rfl rfl rfl (Nat.le_refl _))
          have hB4 : B ≤ w4.heap.size := by have := A4.out.hB; have := A4.out.pin.lt.1; omega
          have B5 := B4.alloc hB4 (.cells #[.int .i64 (fr.1.kind : Int), .int .i64 (fr.1.col : Int), .int .i64 fr.1.num, .int .i64 (fr.1.frame.kind : Int), .int .i64 fr.1.frame.num, .int .i64 (fr.1.frame.frm.kind : Int), .int .i64 fr.1.frame.frm.num, .int .i64 (fr.1.frame.to.kind : Int), .int .i64 fr.1.frame.to.num] 223)
          have L5 := hide (heap_alloc_new w4 (.cells #[.int .i64 (fr.1.kind : Int), .int .i64 (fr.1.col : Int), .int .i64 fr.1.num, .int .i64 (fr.1.frame.kind : Int), .int .i64 fr.1.frame.num, .int .i64 (fr.1.frame.frm.kind : Int), .int .i64 fr.1.frame.frm.num, .int .i64 (fr.1.frame.to.kind : Int), .int .i64 fr.1.frame.to.num] 223))
          have hc5 : w4.heap.size < (w4.alloc (.cells #[.int .i64 (fr.1.kind : Int), .int .i64 (fr.1.col : Int), .int .i64 fr.1.num, .int .i64 (fr.1.frame.kind : Int), .int .i64 fr.1.frame.num, .int .i64 (fr.1.frame.frm.kind : Int), .int .i64 fr.1.frame.frm.num, .int .i64 (fr.1.frame.to.kind : Int), .int .i64 fr.1.frame.to.num] 223)).heap.size := by simp
          have hcn : ((Value.slice (some ⟨gf, 0, none⟩) s'.funcs.length capf)).ownBlock ≠ some w4.heap.size := by intro e; obtain ⟨cur, hcur, _⟩ := own_block A4.out.ofun e; have := (Array.getElem?_eq_some_iff.1 hcur).1; omega
          clear A3 B3 A4 B4
          generalize w4.heap.size = c at *
          generalize w4.alloc (.cells #[.int .i64 (fr.1.kind : Int), .int .i64 (fr.1.col : Int), .int .i64 fr.1.num, .int .i64 (fr.1.frame.kind : Int), .int .i64 fr.1.frame.num, .int .i64 (fr.1.frame.frm.kind : Int), .int .i64 fr.1.frame.frm.num, .int .i64 (fr.1.frame.to.kind : Int), .int .i64 fr.1.frame.to.num] 223) = w5 at *
          have hBs := A5.out.pin.lt.1
          have hB5 : B ≤ w5.heap.size := by have := A5.out.hB; omega
          have hown5 := A5.out.ofun
          have d6 := A5.out.pin.cells3.2.2
          have hle5 := A5.out.pin.le
          have hbd5 := A5.out.pin.bd
          have hl5 : fr.2.funcs.length ≤ fr.2.next := by have h1 := HFN.out; have h2 := HSN.out; rw [HFF.out, HB.out]; omega
          have x0 := cell_of_heap L5.out 0
          have x0 : w5.cell? ⟨c, 0, none⟩ = some (.int .i64 (fr.1.kind : Int)) := x0
          have x1 := cell_of_heap L5.out 1
          have x1 : w5.cell? ⟨c, 1, none⟩ = some (.int .i64 (fr.1.col : Int)) := x1
          have x2 := cell_of_heap L5.out 2
          have x2 : w5.cell? ⟨c, 2, none⟩ = some (.int .i64 fr.1.num) := x2
          have x3 := cell_of_heap L5.out 3
          have x3 : w5.cell? ⟨c, 3, none⟩ = some (.int .i64 (fr.1.frame.kind : Int)) := x3
          have x4 := cell_of_heap L5.out 4
          have x4 : w5.cell? ⟨c, 4, none⟩ = some (.int .i64 fr.1.frame.num) := x4
          have x5 := cell_of_heap L5.out 5
          have x5 : w5.cell? ⟨c, 5, none⟩ = some (.int .i64 (fr.1.frame.frm.kind : Int)) := x5
          have x6 := cell_of_heap L5.out 6
          have x6 : w5.cell? ⟨c, 6, none⟩ = some (.int .i64 fr.1.frame.frm.num) := x6
          have x7 := cell_of_heap L5.out 7
          have x7 : w5.cell? ⟨c, 7, none⟩ = some (.int .i64 (fr.1.frame.to.kind : Int)) := x7
          have x8 := cell_of_heap L5.out 8
          have x8 : w5.cell? ⟨c, 8, none⟩ = some (.int .i64 fr.1.frame.to.num) := x8
          go_region_law (refine step_append_lies _ rfl (.tmp 26) (.tmp 28) 110 rfl B 223 i0 _ 9 72 Tryz.underlying110 hi hz0 hz1 hz2 rfl (by decide) _ fr.2.funcs.length (fnCells fr.2.funcs) rfl (hown5.alloc _).drew _ 1 1 [.int .i64 (fr.1.kind : Int), .int .i64 (fr.1.col : Int), .int .i64 fr.1.num, .int .i64 (fr.1.frame.kind : Int), .int .i64 fr.1.frame.num, .int .i64 (fr.1.frame.frm.kind : Int), .int .i64 fr.1.frame.frm.num, .int .i64 (fr.1.frame.to.kind : Int), .int .i64 fr.1.frame.to.num] rfl rfl (World.news_of_block (heap_alloc_new _ _)) (by intro u hu; simp at hu; rcases hu with rfl | rfl | rfl | rfl | rfl | rfl | rfl | rfl | rfl <;> rfl) (by decide) (by unfold maxLen; omega) (by omega) (by simp; omega) _ rfl ?_; intro g6 cap6 w6 hown6 hgrow6 hat6 hlt6; obtain ⟨p6, A7, B7⟩ := A5.out.pushFun _ fr.1 hown6 hgrow6 hl5 hB5; have d6' := p6.cells3.2.2; have z6 := p6.frozen 6; have HA7 := hide A7; have HB7 := hide B7; clear A7 B7 p6 hown6 hgrow6 hat6 hlt6)
          all_goals
            go_wp2_with (go_at_call 124; refine (take_any HA7.out.pin Pq.wComma).mono ?_; rintro e w8 ⟨rfl, h8, g8⟩; have H8 := hide (HA7.out.moved h8 g8 (Pq.same_take _ _ _).by' (Pq.same_take _ _ _).keys (Pq.same_take _ _ _).funcs (Pq.takeS_next _ _ _)); have B8 := (B5.trans HB7.out).trans (g8.below HA7.out.hB HA7.out.pin.lt.1); clear h8 g8)
            have HST : Hid (Pq.funStep toks len s' = { fr.2 with funcs := fr.2.funcs ++ [fr.1] }) := by show _ = _; rw [HS2.out, HFF.out, HB.out]
            go_roundw
            case rel =>
              rw [← HST.out] at H8 ⊢
              cases ht : Pq.takes toks Pq.wComma (Pq.funStep toks len s')
              · rw [Pq.takeS_no ht] at H8
                refine ⟨false, _, _, _, _, rfl, H8.out, B8, ?_, fun h => by cases h⟩
                show _ = _
                rw [HR.out, Pq.funR_eq, dif_neg (by simp [ht])]
              · have e : Pq.takeS toks Pq.wComma (Pq.funStep toks len s') = (Pq.funStep toks len s').step := by simp [Pq.takeS, ht]
                rw [e] at H8
                refine ⟨true, _, _, _, _, rfl, H8.out, B8, ?_, fun _ => ?_⟩
                · show _ = _
                  rw [HR.out, Pq.funR_eq, dif_pos ht]
                · rw [HST.out]; simp only [Pq.PS.step, List.length_append, List.length_cons, List.length_nil]; omega
            case measure =>
              have e1 := H8.out.pin.nextAt
              have e2 := HA.out.pin.nextAt
              have e3 := H8.out.pin.le
              have e4 := HA.out.pin.le
              have e5 := HFN.out
              have e6 := HSN.out
              clear H8 HA A5 HA7
              cases ht : Pq.takes toks Pq.wComma { fr.2 with funcs := fr.2.funcs ++ [fr.1] }
              · simp [moreM, e2]; omega
              · simp only [Pq.takeS, ht, if_true, Pq.PS.step] at e1 e3
                simp [moreM, e1, e2]; omega

        · have h4' : ((s'.funcs.length : Int) == 4) = false := by rw [beq_eq_false_iff_ne]; omega
          have H4 := hide h4
          clear h4
          have HM : Hid (Pq.funMark toks len s' = s') := by show _ = _; simp only [Pq.funMark, H4.out, if_false]
          have HS2 : Hid (Pq.funStep toks len s' = { (Pq.funcR toks len (Pq.funMark toks len s')).2 with funcs := s'.funcs ++ [(Pq.funcR toks len (Pq.funMark toks len s')).1] }) := hide rfl
          have HB : Hid ((Pq.funMark toks len s').funcs = s'.funcs) := by show _ = _; rw [HM.out]
          have HSN : Hid ((Pq.funMark toks len s').next = s'.next) := by show _ = _; rw [HM.out]
          have A3o := HA
          have B3 := hbel
          have A3 : Hid (PAl wr B b g cap len toks vb' vk' (Value.slice (some ⟨gf, 0, none⟩) s'.funcs.length capf) (Pq.funMark toks len s')) := by rw [HM.out]; exact A3o
          clear HM A3o
          generalize Pq.funMark toks len s' = sm at *
          go_wp2_with fail
          refine (readFunc_any A3.out.pin).mono ?_
          rintro e w4 ⟨rfl, h4, g4⟩
          have A4 := hide (A3.out.moved h4 g4 (Pq.same_func _ _ _).by' (Pq.same_func _ _ _).keys (Pq.same_func _ _ _).funcs (Pq.funcR_next _ _ _))
          have B4 := B3.trans (g4.below A3.out.hB A3.out.pin.lt.1)
          have HFF := hide (Pq.same_func toks len sm).funcs
          have HFN := hide (Pq.funcR_next toks len sm)
          clear h4 g4
          generalize Pq.funcR toks len sm = fr at *
          go_wp2_with fail
          have A5 := hide (A4.out.moved (A4.out.pin.alloc (.cells #[.int .i64 (fr.1.kind : Int), .int .i64 (fr.1.col : Int), .int .i64 fr.1.num, .int .i64 (fr.1.frame.kind : Int), .int .i64 fr.1.frame.num, .int .i64 (fr.1.frame.frm.kind : Int), .int .i64 fr.1.frame.frm.num, .int .i64 (fr.1.frame.to.kind : Int), .int .i64 fr.1.frame.to.num] 223)) ((Gb.refl b w4).alloc (.cells #[.int .i64 (fr.1.kind : Int), .int .i64 (fr.1.col : Int), .int .i64 fr.1.num, .int .i64 (fr.1.frame.kind : Int), .int .i64 fr.1.frame.num, .int .i64 (fr.1.frame.frm.kind : Int), .int .i64 fr.1.frame.frm.num, .int .i64 (fr.1.frame.to.kind : Int), .int .i64 fr.1.frame.to.num] 223)) rfl rfl rfl (Nat.le_refl _))
          have hB4 : B ≤ w4.heap.size := by have := A4.out.hB; have := A4.out.pin.lt.1; omega
          have B5 := B4.alloc hB4 (.cells #[.int .i64 (fr.1.kind : Int), .int .i64 (fr.1.col : Int), .int .i64 fr.1.num, .int .i64 (fr.1.frame.kind : Int), .int .i64 fr.1.frame.num, .int .i64 (fr.1.frame.frm.kind : Int), .int .i64 fr.1.frame.frm.num, .int .i64 (fr.1.frame.to.kind : Int), .int .i64 fr.1.frame.to.num] 223)
          have L5 := hide (heap_alloc_new w4 (.cells #[.int .i64 (fr.1.kind : Int), .int .i64 (fr.1.col : Int), .int .i64 fr.1.num, .int .i64 (fr.1.frame.kind : Int), .int .i64 fr.1.frame.num, .int .i64 (fr.1.frame.frm.kind : Int), .int .i64 fr.1.frame.frm.num, .int .i64 (fr.1.frame.to.kind : Int), .int .i64 fr.1.frame.to.num] 223))
          have hc5 : w4.heap.size < (w4.alloc (.cells #[.int .i64 (fr.1.kind : Int), .int .i64 (fr.1.col : Int), .int .i64 fr.1.num, .int .i64 (fr.1.frame.kind : Int), .int .i64 fr.1.frame.num, .int .i64 (fr.1.frame.frm.kind : Int), .int .i64 fr.1.frame.frm.num, .int .i64 (fr.1.frame.to.kind : Int), .int .i64 fr.1.frame.to.num] 223)).heap.size := by simp
          have hcn : ((Value.slice (some ⟨gf, 0, none⟩) s'.funcs.length capf)).ownBlock ≠ some w4.heap.size := by intro e; obtain ⟨cur, hcur, _⟩ := own_block A4.out.ofun e; have := (Array.getElem?_eq_some_iff.1 hcur).1; omega
          clear A3 B3 A4 B4
          generalize w4.heap.size = c at *
          generalize w4.alloc (.cells #[.int .i64 (fr.1.kind : Int), .int .i64 (fr.1.col : Int), .int .i64 fr.1.num, .int .i64 (fr.1.frame.kind : Int), .int .i64 fr.1.frame.num, .int .i64 (fr.1.frame.frm.kind : Int), .int .i64 fr.1.frame.frm.num, .int .i64 (fr.1.frame.to.kind : Int), .int .i64 fr.1.frame.to.num] 223) = w5 at *
          have hBs := A5.out.pin.lt.1
          have hB5 : B ≤ w5.heap.size := by have := A5.out.hB; omega
          have hown5 := A5.out.ofun
          have d6 := A5.out.pin.cells3.2.2
          have hle5 := A5.out.pin.le
          have hbd5 := A5.out.pin.bd
          have hl5 : fr.2.funcs.length ≤ fr.2.next := by have h1 := HFN.out; have h2 := HSN.out; rw [HFF.out, HB.out]; omega
          have x0 := cell_of_heap L5.out 0
          have x0 : w5.cell? ⟨c, 0, none⟩ = some (.int .i64 (fr.1.kind : Int)) := x0
          have x1 := cell_of_heap L5.out 1
          have x1 : w5.cell? ⟨c, 1, none⟩ = some (.int .i64 (fr.1.col : Int)) := x1
          have x2 := cell_of_heap L5.out 2
          have x2 : w5.cell? ⟨c, 2, none⟩ = some (.int .i64 fr.1.num) := x2
          have x3 := cell_of_heap L5.out 3
          have x3 : w5.cell? ⟨c, 3, none⟩ = some (.int .i64 (fr.1.frame.kind : Int)) := x3
          have x4 := cell_of_heap L5.out 4
          have x4 : w5.cell? ⟨c, 4, none⟩ = some (.int .i64 fr.1.frame.num) := x4
          have x5 := cell_of_heap L5.out 5
          have x5 : w5.cell? ⟨c, 5, none⟩ = some (.int .i64 (fr.1.frame.frm.kind : Int)) := x5
          have x6 := cell_of_heap L5.out 6
          have x6 : w5.cell? ⟨c, 6, none⟩ = some (.int .i64 fr.1.frame.frm.num) := x6
          have x7 := cell_of_heap L5.out 7
          have x7 : w5.cell? ⟨c, 7, none⟩ = some (.int .i64 (fr.1.frame.to.kind : Int)) := x7
          have x8 := cell_of_heap L5.out 8
          have x8 : w5.cell? ⟨c, 8, none⟩ = some (.int .i64 fr.1.frame.to.num) := x8
          go_region_law (refine step_append_lies _ rfl (.tmp 26) (.tmp 28) 110 rfl B 223 i0 _ 9 72 Tryz.underlying110 hi hz0 hz1 hz2 rfl (by decide) _ fr.2.funcs.length (fnCells fr.2.funcs) rfl (hown5.alloc _).drew _ 1 1 [.int .i64 (fr.1.kind : Int), .int .i64 (fr.1.col : Int), .int .i64 fr.1.num, .int .i64 (fr.1.frame.kind : Int), .int .i64 fr.1.frame.num, .int .i64 (fr.1.frame.frm.kind : Int), .int .i64 fr.1.frame.frm.num, .int .i64 (fr.1.frame.to.kind : Int), .int .i64 fr.1.frame.to.num] rfl rfl (World.news_of_block (heap_alloc_new _ _)) (by intro u hu; simp at hu; rcases hu with rfl | rfl | rfl | rfl | rfl | rfl | rfl | rfl | rfl <;> rfl) (by decide) (by unfold maxLen; omega) (by omega) (by simp; omega) _ rfl ?_; intro g6 cap6 w6 hown6 hgrow6 hat6 hlt6; obtain ⟨p6, A7, B7⟩ := A5.out.pushFun _ fr.1 hown6 hgrow6 hl5 hB5; have d6' := p6.cells3.2.2; have z6 := p6.frozen 6; have HA7 := hide A7; have HB7 := hide B7; clear A7 B7 p6 hown6 hgrow6 hat6 hlt6)
          all_goals
            go_wp2_with (go_at_call 124; refine (take_any HA7.out.pin Pq.wComma).mono ?_; rintro e w8 ⟨rfl, h8, g8⟩; have H8 := hide (HA7.out.moved h8 g8 (Pq.same_take _ _ _).by' (Pq.same_take _ _ _).keys (Pq.same_take _ _ _).funcs (Pq.takeS_next _ _ _)); have B8 := (B5.trans HB7.out).trans (g8.below HA7.out.hB HA7.out.pin.lt.1); clear h8 g8)
            have HST : Hid (Pq.funStep toks len s' = { fr.2 with funcs := fr.2.funcs ++ [fr.1] }) := by show _ = _; rw [HS2.out, HFF.out, HB.out]
            go_roundw
            case rel =>
              rw [← HST.out] at H8 ⊢
              cases ht : Pq.takes toks Pq.wComma (Pq.funStep toks len s')
              · rw [Pq.takeS_no ht] at H8
                refine ⟨false, _, _, _, _, rfl, H8.out, B8, ?_, fun h => by cases h⟩
                show _ = _
                rw [HR.out, Pq.funR_eq, dif_neg (by simp [ht])]
              · have e : Pq.takeS toks Pq.wComma (Pq.funStep toks len s') = (Pq.funStep toks len s').step := by simp [Pq.takeS, ht]
                rw [e] at H8
                refine ⟨true, _, _, _, _, rfl, H8.out, B8, ?_, fun _ => ?_⟩
                · show _ = _
                  rw [HR.out, Pq.funR_eq, dif_pos ht]
                · rw [HST.out]; simp only [Pq.PS.step, List.length_append, List.length_cons, List.length_nil]; omega
            case measure =>
              have e1 := H8.out.pin.nextAt
              have e2 := HA.out.pin.nextAt
              have e3 := H8.out.pin.le
              have e4 := HA.out.pin.le
              have e5 := HFN.out
              have e6 := HSN.out
              clear H8 HA A5 HA7
              cases ht : Pq.takes toks Pq.wComma { fr.2 with funcs := fr.2.funcs ++ [fr.1] }
              · simp [moreM, e2]; omega
              · simp only [Pq.takeS, ht, if_true, Pq.PS.step] at e1 e3
                simp [moreM, e1, e2]; omega

end Go.Proofs.YtcoofnhdbejnpaaGreatDoor

