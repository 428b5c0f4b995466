/- Package queries: readKeys. -/
import Derived.Test.YtcoofnhdbejnpaaGreatDoorG17
namespace Go.Proofs.YtcoofnhdbejnpaaGreatDoor
open Go.RowKit
theorem infoKey : (Tryz.prog.info? 253).map (fun i => (i.zero, i.size, i.bytes)) = some (some (.agg #[.int .i64 0, .bool false]), 2, 16) := by kernel_rfl
set_option maxHeartbeats 1000000 in
theorem readKeys_any {w : World} {B b g cap len : Nat} {toks : List Pq.Tok} {vb vk vf : Value} {s : Pq.PS} (h : PAl w B b g cap len toks vb vk vf s) (hl : s.keys.length ≤ s.next) :
    Calls Tryz.prog 127 #[.pointer (some ⟨b, 0, none⟩)] w fun e w' => e = .returned (.tuple #[]) ∧ (∃ vb vk vf, PAl w' B b g cap len toks vb vk vf (Pq.keyR toks len s)) ∧ Below B w w' := by
  obtain ⟨i0, hi, hz0, hz1, hz2⟩ := info_parts infoKey
  have H := hide h
  have hl' := hide hl
  clear h hl
  go_enter Tryz.func127, Tryz.ntmps127
  go_wp2
  go_loopw [2] (fun m wr => ∃ (mb : Bool) (s' : Pq.PS) (vb' vk' vf' : Value), m = .bool mb ∧ Hid (PAl wr B b g cap len toks vb' vk' vf' s') ∧ Below B w wr ∧ Hid (ByRel (Pq.keyR toks len) mb s s') ∧ Hid (mb = true → s'.keys.length ≤ s'.next)) (fun m wr => moreM toks.length m (nextAt wr b))
  case atStart => exact ⟨true, s, vb, vk, vf, rfl, H.out, Below.refl _ _, rfl, fun _ => hl'.out⟩
  case round =>
    obtain ⟨mb, s', vb', vk', vf', rfl, HA, hbel, HR, HLN⟩ := hrel
    cases mb
    · go_wp2
      go_end0
      have hr : Pq.keyR toks len s = s' := HR.out
      rw [hr]
      exact ⟨rfl, ⟨_, _, _, HA.out⟩, hbel⟩
    · have hln := HLN.out rfl
      have hR' : Pq.keyR toks len s = Pq.keyR toks len s' := HR.out
      clear HLN HR
      have HR := hide hR'
      clear hR'
      go_wp2_with fail
      refine (place_any HA.out.pin).mono ?_
      rintro e w1 ⟨rfl, nq, rfl⟩
      have A1 := hide (HA.out.moved (HA.out.pin.drewN nq) ((Gb.refl b wr).drewN nq) rfl rfl rfl (Nat.le_refl _))
      have B1 : Below B w (wr.drewN nq) := below_drewN hbel nq
      generalize wr.drewN nq = w1 at *
      go_wp2_with fail
      refine (readCol_any A1.out.pin).mono ?_
      rintro e w2 ⟨rfl, h2, g2⟩
      have A2o := hide (A1.out.moved h2 g2 (Pq.same_oneOf _ _ _ _).by' (Pq.same_oneOf _ _ _ _).keys (Pq.same_oneOf _ _ _ _).funcs (Pq.oneOfS_next _ _ _ _))
      have B2o := B1.trans (g2.below A1.out.hB A1.out.pin.lt.1)
      clear h2 g2
      go_wp2_with fail
      refine (take_any A2o.out.pin Pq.wDesc).mono ?_
      rintro e w2' ⟨rfl, h2, g2⟩
      have A2 := hide (A2o.out.moved h2 g2 (Pq.same_take _ _ _).by' (Pq.same_take _ _ _).keys (Pq.same_take _ _ _).funcs (Pq.takeS_next _ _ _))
      have B2 := B2o.trans (g2.below A2o.out.hB A2o.out.pin.lt.1)
      clear h2 g2 A2o B2o
      generalize w2' = w2 at *
      have ho2 : w2.ownsRow B 253 2 vk' s'.keys.length (keyCells s'.keys) := by have := A2.out.okey; rwa [((Pq.same_oneOf toks Pq.colTxt 3 s').trans (Pq.same_take _ _ _)).keys] at this
      have d4 := A2.out.pin.cells3.2.1
      have hle2 := HA.out.pin.le
      have hbd2 := HA.out.pin.bd
      go_wp2_with fail
      refine (hasKey_any ho2 (by omega) _).mono ?_
      rintro e w2' ⟨rfl, rfl⟩
      have HS2 : Hid (Pq.keyStep toks len s' = { Pq.keyMark toks len s' with keys := s'.keys ++ [(Pq.oneOfV toks Pq.colTxt 3 s', Pq.takes toks Pq.wDesc (Pq.oneOfS toks Pq.colTxt 3 s'))] }) := hide rfl
      have HN2 : Hid (s'.next ≤ (Pq.keyMark toks len s').next) := Pq.keyStep_next toks len s'
      have HM : Hid (Pq.keyMark toks len s' = if Pq.hasK s'.keys (Pq.oneOfV toks Pq.colTxt 3 s') then Pq.twiceS (Pq.placeS toks len s') (Pq.takeS toks Pq.wDesc (Pq.oneOfS toks Pq.colTxt 3 s')) else Pq.takeS toks Pq.wDesc (Pq.oneOfS toks Pq.colTxt 3 s')) := hide rfl
      cases hC : Pq.hasK s'.keys (Pq.oneOfV toks Pq.colTxt 3 s')
      · have HM2 : Hid (Pq.keyMark toks len s' = Pq.takeS toks Pq.wDesc (Pq.oneOfS toks Pq.colTxt 3 s')) := by show _ = _; rw [HM.out, hC]; rfl
        rw [HM2.out] at HS2 HN2
        have HB : Hid ((Pq.takeS toks Pq.wDesc (Pq.oneOfS toks Pq.colTxt 3 s')).keys = s'.keys) := ((Pq.same_oneOf toks Pq.colTxt 3 s').trans (Pq.same_take _ _ _)).keys
        have A3 := A2
        have B3 := B2
        clear ho2 d4 HM HM2
        generalize Pq.takeS toks Pq.wDesc (Pq.oneOfS toks Pq.colTxt 3 s') = sm at *
        generalize Pq.takes toks Pq.wDesc (Pq.oneOfS toks Pq.colTxt 3 s') = dd at *
        generalize Pq.oneOfV toks Pq.colTxt 3 s' = cc at *
        have HST : Hid (Pq.keyStep toks len s' = { sm with keys := sm.keys ++ [(cc, dd)] }) := by show _ = _; rw [HS2.out, HB.out]
        have HSN := HN2
        clear HS2 A2 B2 HN2
        generalize w2 = w3 at *
        have hsn := HSN.out
        have hBs := A3.out.pin.lt.1
        have hB3 : B ≤ w3.heap.size := by have := A3.out.hB; omega
        have hown3 := A3.out.okey
        have d4 := A3.out.pin.cells3.2.1
        have hle3 := A3.out.pin.le
        have hbd3 := A3.out.pin.bd
        have hl3 : sm.keys.length ≤ sm.next := by rw [HB.out]; omega
        go_wp2_with (first | (at_builtin; refine wpList_append_lies _ rfl (.tmp 30) (.tmp 34) 109 rfl B 253 i0 _ 2 16 Tryz.underlying109 hi hz0 hz1 hz2 rfl (by decide) _ sm.keys.length (keyCells sm.keys) rfl (hown3.alloc _) _ 1 1 [.int .i64 (cc : Int), .bool dd] rfl rfl (World.news_of_block (heap_alloc_new _ _)) (by intro u hu; simp at hu; rcases hu with rfl | rfl <;> rfl) (by decide) (by unfold maxLen; omega) (by omega) (by simp; omega) _ rfl ?_; intro g5 cap5 w5 hown5 hgrow5 hat5 hlt5; obtain ⟨p5, A6, B6⟩ := A3.out.pushKey _ (cc, dd) hown5 (grown_drew hgrow5) hl3 hB3; have d5 := p5.cells3.2.1; have z5 := p5.frozen 5; have HA6 := hide A6; have HB6 := hide B6; clear A6 B6 p5 hown5 hgrow5 hat5 hlt5) | (go_at_call 124; refine (take_any HA6.out.pin Pq.wComma).mono ?_; rintro e w7 ⟨rfl, h7, g7⟩; have H7 := hide (HA6.out.moved h7 g7 (Pq.same_take _ _ _).by' (Pq.same_take _ _ _).keys (Pq.same_take _ _ _).funcs (Pq.takeS_next _ _ _)); have B7 := (B3.trans HB6.out).trans (g7.below HA6.out.hB HA6.out.pin.lt.1); clear h7 g7))
        go_roundw
        case rel =>
          rw [← HST.out] at H7 ⊢
          cases ht : Pq.takes toks Pq.wComma (Pq.keyStep toks len s')
          · rw [Pq.takeS_no ht] at H7
            refine ⟨false, _, _, _, _, rfl, H7.out, B7, ?_, fun h => by cases h⟩
            show _ = _
            rw [HR.out, Pq.keyR_eq, dif_neg (by simp [ht])]
          · have e : Pq.takeS toks Pq.wComma (Pq.keyStep toks len s') = (Pq.keyStep toks len s').step := by simp [Pq.takeS, ht]
            rw [e] at H7
            refine ⟨true, _, _, _, _, rfl, H7.out, B7, ?_, fun _ => ?_⟩
            · show _ = _
              rw [HR.out, Pq.keyR_eq, dif_pos ht]
            · rw [HST.out]; simp only [Pq.PS.step, List.length_append, List.length_cons, List.length_nil]; omega
        case measure =>
          have e1 := H7.out.pin.nextAt
          have e2 := HA.out.pin.nextAt
          have e3 := H7.out.pin.le
          have e4 := HA.out.pin.le
          have e5 := HSN.out
          clear H7 HA A3 HA6
          cases ht : Pq.takes toks Pq.wComma { sm with keys := sm.keys ++ [(cc, dd)] }
          · simp [moreM, e2]; omega
          · simp only [Pq.takeS, ht, if_true, Pq.PS.step] at e1 e3
            simp [moreM, e1, e2]; omega

      · have HM2 : Hid (Pq.keyMark toks len s' = Pq.twiceS (Pq.placeS toks len s') (Pq.takeS toks Pq.wDesc (Pq.oneOfS toks Pq.colTxt 3 s'))) := by show _ = _; rw [HM.out, hC]; rfl
        rw [HM2.out] at HS2 HN2
        have HB : Hid ((Pq.twiceS (Pq.placeS toks len s') (Pq.takeS toks Pq.wDesc (Pq.oneOfS toks Pq.colTxt 3 s'))).keys = s'.keys) := (((Pq.same_oneOf toks Pq.colTxt 3 s').trans (Pq.same_take _ _ _)).trans (Pq.same_twice _ _)).keys
        clear ho2 d4 HM HM2
        go_wp2_with fail
        refine (noteTwice_any A2.out.pin _).mono ?_
        rintro e w3 ⟨rfl, h3, g3⟩
        have A3 := hide (A2.out.moved h3 g3 (Pq.same_twice _ _).by' (Pq.same_twice _ _).keys (Pq.same_twice _ _).funcs (Nat.le_of_eq (Pq.twiceS_next _ _).symm))
        have B3 := B2.trans (g3.below A2.out.hB A2.out.pin.lt.1)
        clear h3 g3 A2 B2
        generalize Pq.twiceS (Pq.placeS toks len s') (Pq.takeS toks Pq.wDesc (Pq.oneOfS toks Pq.colTxt 3 s')) = sm at *
        generalize Pq.takes toks Pq.wDesc (Pq.oneOfS toks Pq.colTxt 3 s') = dd at *
        generalize Pq.oneOfV toks Pq.colTxt 3 s' = cc at *
        have HST : Hid (Pq.keyStep toks len s' = { sm with keys := sm.keys ++ [(cc, dd)] }) := by show _ = _; rw [HS2.out, HB.out]
        have HSN := HN2
        clear HS2 HN2
        have hsn := HSN.out
        have hBs := A3.out.pin.lt.1
        have hB3 : B ≤ w3.heap.size := by have := A3.out.hB; omega
        have hown3 := A3.out.okey
        have d4 := A3.out.pin.cells3.2.1
        have hle3 := A3.out.pin.le
        have hbd3 := A3.out.pin.bd
        have hl3 : sm.keys.length ≤ sm.next := by rw [HB.out]; omega
        go_wp2_with (first | (at_builtin; refine wpList_append_lies _ rfl (.tmp 30) (.tmp 34) 109 rfl B 253 i0 _ 2 16 Tryz.underlying109 hi hz0 hz1 hz2 rfl (by decide) _ sm.keys.length (keyCells sm.keys) rfl (hown3.alloc _) _ 1 1 [.int .i64 (cc : Int), .bool dd] rfl rfl (World.news_of_block (heap_alloc_new _ _)) (by intro u hu; simp at hu; rcases hu with rfl | rfl <;> rfl) (by decide) (by unfold maxLen; omega) (by omega) (by simp; omega) _ rfl ?_; intro g5 cap5 w5 hown5 hgrow5 hat5 hlt5; obtain ⟨p5, A6, B6⟩ := A3.out.pushKey _ (cc, dd) hown5 (grown_drew hgrow5) hl3 hB3; have d5 := p5.cells3.2.1; have z5 := p5.frozen 5; have HA6 := hide A6; have HB6 := hide B6; clear A6 B6 p5 hown5 hgrow5 hat5 hlt5) | (go_at_call 124; refine (take_any HA6.out.pin Pq.wComma).mono ?_; rintro e w7 ⟨rfl, h7, g7⟩; have H7 := hide (HA6.out.moved h7 g7 (Pq.same_take _ _ _).by' (Pq.same_take _ _ _).keys (Pq.same_take _ _ _).funcs (Pq.takeS_next _ _ _)); have B7 := (B3.trans HB6.out).trans (g7.below HA6.out.hB HA6.out.pin.lt.1); clear h7 g7))
        go_roundw
        case rel =>
          rw [← HST.out] at H7 ⊢
          cases ht : Pq.takes toks Pq.wComma (Pq.keyStep toks len s')
          · rw [Pq.takeS_no ht] at H7
            refine ⟨false, _, _, _, _, rfl, H7.out, B7, ?_, fun h => by cases h⟩
            show _ = _
            rw [HR.out, Pq.keyR_eq, dif_neg (by simp [ht])]
          · have e : Pq.takeS toks Pq.wComma (Pq.keyStep toks len s') = (Pq.keyStep toks len s').step := by simp [Pq.takeS, ht]
            rw [e] at H7
            refine ⟨true, _, _, _, _, rfl, H7.out, B7, ?_, fun _ => ?_⟩
            · show _ = _
              rw [HR.out, Pq.keyR_eq, dif_pos ht]
            · rw [HST.out]; simp only [Pq.PS.step, List.length_append, List.length_cons, List.length_nil]; omega
        case measure =>
          have e1 := H7.out.pin.nextAt
          have e2 := HA.out.pin.nextAt
          have e3 := H7.out.pin.le
          have e4 := HA.out.pin.le
          have e5 := HSN.out
          clear H7 HA A3 HA6
          cases ht : Pq.takes toks Pq.wComma { sm with keys := sm.keys ++ [(cc, dd)] }
          · simp [moreM, e2]; omega
          · simp only [Pq.takeS, ht, if_true, Pq.PS.step] at e1 e3
            simp [moreM, e1, e2]; omega
end Go.Proofs.YtcoofnhdbejnpaaGreatDoor

