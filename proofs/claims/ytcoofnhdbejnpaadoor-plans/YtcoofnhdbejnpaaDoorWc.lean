/- Package panesref: Tokens. -/
import Derived.Test.YtcoofnhdbejnpaaDoorWb
import Derived.Test.YtcoofnhdbejnpaaDoorQk
import Derived.Deep.CutBlock
namespace Go.Proofs.YtcoofnhdbejnpaaDoor
open Go.RowKit
theorem mark0 {p : Prop} (h : Hid p) : p := h
theorem alloc_at {w : World} {o : Obj} {k : Nat} (h : w.heap.size = k) : (w.alloc o).heap[k]? = some o := by subst h; exact heap_alloc_new _ _
theorem infoRTok : (Tryd.prog.info? 74).map (fun i => (i.zero, i.size, i.bytes)) = some (some (.agg #[.string ⟨#[]⟩, .int .i64 0]), 2, 24) := by kernel_rfl
theorem RdS.new (w : World) (ws : List Pq.Bytes) : RdS (w.alloc (.cells (strCells ws).toArray 9 (0, 0))) (.slice (some ⟨w.heap.size, 0, none⟩) ws.length ws.length) ws :=
  .inr ⟨w.heap.size, 0, ws.length, _, rfl, Nat.le_refl _, heap_alloc_new _ _, fun j u hu => by simpa using hu⟩
theorem own_drewN {w : World} {base : Nat} {e : TypeId} {size : Nat} {v : Value} {n : Nat} {xs : List Value} (h : w.ownsRow base e size v n xs) (k : Nat) : (w.drewN k).ownsRow base e size v n xs := h
theorem below_drewN {B : Nat} {a w : World} (h : Below B a w) (k : Nat) : Below B a (w.drewN k) := ⟨h.os, h.tape, h.output, h.size, h.block⟩
/-- what Tokens answers -/
def TokPost (r : List Pq.Tok × Int) (B : Nat) (e : Ending) (w' : World) : Prop :=
  if r.2 = -1 then ∃ v, e = .returned (.tuple #[v, .int .i64 (-1)]) ∧ w'.ownsRow B 74 2 v r.1.length (rtoks r.1)
  else e = .returned (.tuple #[.slice none 0 0, .int .i64 r.2])
set_option maxRecDepth 100000 in
set_option maxHeartbeats 1000000 in
theorem tokens_any (s : ByteArray) (w : World) (hs : s.size ≤ 300) :
    Calls Tryd.prog 51 #[.string s] w fun e w' => Below w.heap.size w w' ∧ TokPost (Pq.lexFrom s.data.toList 0) w.heap.size e w' := by
  obtain ⟨i0, hi, hz0, hz1, hz2⟩ := info_parts infoRTok
  go_enter Tryd.func51, Tryd.ntmps51
  go_wp2_with fail
  go_loopw [4, 5] (fun v i wr => ∃ (k : Nat) (ts : List Pq.Tok), k ≤ s.size ∧ i = .int .i64 k ∧ ts.length ≤ k ∧ wr.ownsRow w.heap.size 74 2 v ts.length (rtoks ts) ∧ Below w.heap.size w wr ∧
      Hid (Pq.lexFrom s.data.toList 0 = (ts ++ (Pq.lexFrom s.data.toList k).1, (Pq.lexFrom s.data.toList k).2))) (fun _ i _ => s.size - (intOf i).toNat)
  case atStart => exact ⟨0, [], Nat.zero_le _, rfl, Nat.zero_le _, World.ownsRow_nil _ _ _ _, Below.refl _ _, by show _ = _; simp⟩
  case round =>
    obtain ⟨k, ts, hk, rfl, hts, hown, hbel, HL⟩ := hrel
    by_cases hlt : k < s.size
    · have hl : k < s.data.toList.length := by simpa using hlt
      cases hb : Pq.isBlk s[k]
      · have hb1 : ((s[k].toNat : Int) == 32) = false := by unfold Pq.isBlk at hb; simp only [Bool.or_eq_false_iff] at hb; exact hb.1
        have hb2 : ((s[k].toNat : Int) == 10) = false := by unfold Pq.isBlk at hb; simp only [Bool.or_eq_false_iff] at hb; exact hb.2
        have HB := hide hb
        clear hb
        go_upto_block 2 with fail
        go_cut [6, 7] from 12 to 90 (fun kk m wx => ∃ j : Nat, k < j ∧ j ≤ s.size ∧ kk = .int .i64 j ∧ wx.ownsRow w.heap.size 74 2 _ ts.length (rtoks ts) ∧ Below w.heap.size w wx ∧ Hid (Pr.jEnd s.data.toList (k + 1) = j))
        case first =>
          go_wp2_with fail
          go_loopw [6, 7] (fun kk m wr => ∃ (j : Nat) (b : Bool), k < j ∧ j ≤ s.size ∧ kk = .int .i64 j ∧ m = .bool b ∧ wr.ownsRow w.heap.size 74 2 _ ts.length (rtoks ts) ∧ Below w.heap.size w wr ∧ Hid (Pr.jEnd s.data.toList (k + 1) = if b then Pr.jEnd s.data.toList j else j)) (fun kk m _ => 2 * (s.size - (intOf kk).toNat) + (match m with | .bool true => 1 | _ => 0))
          case atStart => exact ⟨k + 1, true, by omega, by omega, by go_num, rfl, hown, hbel, rfl⟩
          case round =>
            obtain ⟨j, b, hkj, hjs, rfl, rfl, hown2, hbel2, HJ⟩ := hrel
            by_cases hj : j < s.size
            · cases b
              · have HE : Hid (Pr.jEnd s.data.toList (k + 1) = j) := by show _ = _; simpa using HJ.out
                clear HJ
                go_wp2
                go_meet
                case rel => exact ⟨j, hkj, hjs, rfl, hown2, hbel2, HE⟩
              · have HJ2 : Hid (Pr.jEnd s.data.toList (k + 1) = Pr.jEnd s.data.toList j) := by show _ = _; simpa using HJ.out
                clear HJ
                have hjl : j < s.data.toList.length := by simpa using hj
                have hj1 : j - 1 < s.size := by omega
                have hjw : IntKind.i64.wrap ((j : Int) - 1) = ((j - 1 : Nat) : Int) := by rw [IntKind.wrap_i64]; omega
                go_wp2
                go_quiet ((go_at_call 69; exact Calls.quiet_of_same ((joined_any _ _ _).mono fun _ _ h => ⟨h.1, h.2.symm⟩)))
                go_wp2
                · rename_i hq
                  go_roundw
                  case rel => exact ⟨j + 1, true, by omega, by omega, by go_num, by first | rfl | exact congrArg Value.bool hq, own_drewN hown2 _, below_drewN hbel2 _, by show _ = _; rw [HJ2.out, Pr.jEnd_step hjl hq]; simp⟩
                  case measure => simp [intOf, hq]; omega
                · rename_i hq
                  go_roundw
                  case rel => exact ⟨j, false, hkj, hjs, rfl, by first | rfl | exact congrArg Value.bool hq, own_drewN hown2 _, below_drewN hbel2 _, by show _ = _; rw [HJ2.out, Pr.jEnd_stop hjl hq]; simp⟩
                  case measure => simp [hq]
            · have HE : Hid (Pr.jEnd s.data.toList (k + 1) = j) := by
                show _ = _; rw [HJ.out, Pr.jEnd_end (by simpa using hj)]; cases b <;> simp
              clear HJ
              go_wp2
              go_meet
              case rel => exact ⟨j, hkj, hjs, rfl, hown2, hbel2, HE⟩
        case rest =>
          obtain ⟨j, hkj, hjs, rfl, hown2, hbel2, HE⟩ := hcut
          have HX := hide (extract_eq s k j)
          have HOK : Hid ((Pr.inW (s.extract k j).data.toList Pr.signs || (Pq.isDig s[k] && decide (((j - k : Nat) : Int) ≤ 2)) || (Pq.isLet s[k] && decide (((j - k : Nat) : Int) ≤ 8))) = decide (k < Pq.tokEnd s.data.toList k) ∧ (k < Pq.tokEnd s.data.toList k → Pq.tokEnd s.data.toList k = j)) := by
            have h := Pr.tok_ok s.data.toList k hl
            have hlen := Pr.tokT_len s.data.toList k hl
            unfold Pr.tokOk at h
            rw [hlen] at h
            unfold Pr.tokT at h
            rw [HE.out] at h
            rw [HX.out]
            have e2 : decide (((j - k : Nat) : Int) ≤ 2) = decide (j - k ≤ 2) := by rw [decide_eq_decide]; omega
            have e8 : decide (((j - k : Nat) : Int) ≤ 8) = decide (j - k ≤ 8) := by rw [decide_eq_decide]; omega
            rw [e2, e8]
            exact h
          have hext : (s.extract k j).size = j - k := by simp; omega
          clear HE
          generalize hxe : s.extract k j = xx at *
          go_upto_region 14 with (go_at_call 54; refine (in_any xx.data.toList Pr.signs _ (RdS.new _ Pr.signs) (by decide)).mono ?_; rintro e w' ⟨rfl, rfl⟩)
          go_cut [10] from 12 to 90 (fun v wx => v = .bool (Pq.isDig s[k] && decide (((j - k : Nat) : Int) ≤ 2)) ∧ wx.ownsRow w.heap.size 74 2 _ ts.length (rtoks ts) ∧ Below w.heap.size w wx)
          case first =>
            cases hD : Pq.isDig s[k]
            · go_wp2_with (go_at_call 70; refine (rDigit_any _ _).mono ?_; rintro e w' ⟨rfl, rfl⟩)
              go_meet
              case rel => exact ⟨by rw [hD]; rfl, hown2.alloc _, hbel2.alloc hbel2.size _⟩
            · go_wp2_with (go_at_call 70; refine (rDigit_any _ _).mono ?_; rintro e w' ⟨rfl, rfl⟩)
              go_meet
              case rel => exact ⟨by rw [hD]; rfl, hown2.alloc _, hbel2.alloc hbel2.size _⟩
          case rest =>
            obtain ⟨rfl, hown3, hbel3⟩ := hcut
            generalize hnn : (Pq.isDig s[k] && decide (((j - k : Nat) : Int) ≤ 2)) = nn at *
            go_upto_region 15 with fail
            go_cut [11] from 12 to 90 (fun v wx => v = .bool (Pq.isLet s[k] && decide (((j - k : Nat) : Int) ≤ 8)) ∧ wx.ownsRow w.heap.size 74 2 _ ts.length (rtoks ts) ∧ Below w.heap.size w wx)
            case first =>
              cases hD : Pq.isLet s[k]
              · go_wp2_with (go_at_call 71; refine (rLetter_any _ _).mono ?_; rintro e w' ⟨rfl, rfl⟩)
                go_meet
                case rel => exact ⟨by rw [hD]; rfl, hown3, hbel3⟩
              · go_wp2_with (go_at_call 71; refine (rLetter_any _ _).mono ?_; rintro e w' ⟨rfl, rfl⟩)
                go_meet
                case rel => exact ⟨by rw [hD]; rfl, hown3, hbel3⟩
            case rest =>
              obtain ⟨rfl, hown4, hbel4⟩ := hcut
              generalize hww : (Pq.isLet s[k] && decide (((j - k : Nat) : Int) ≤ 8)) = ww at *
              generalize hss : Pr.inW xx.data.toList Pr.signs = sg at *
              go_upto_region 16 with fail
              go_cut [82] from 12 to 90 (fun v wx => v = .bool (!(sg || nn || ww)) ∧ wx.ownsRow w.heap.size 74 2 _ ts.length (rtoks ts) ∧ Below w.heap.size w wx)
              case first =>
                cases sg <;> cases nn <;> cases ww
                all_goals
                  go_wp2
                  go_meet
                  case rel => exact ⟨rfl, hown4, hbel4⟩
              case rest =>
                obtain ⟨rfl, hown5, hbel5⟩ := hcut
                cases hbb : (sg || nn || ww)
                · have hte : Pq.tokEnd s.data.toList k ≤ k := by have := HOK.out.1; rw [hbb] at this; simpa using this
                  go_wp2
                  go_ret2
                  have HEN : Hid (Pq.lexFrom s.data.toList 0 = (ts, (k : Int))) := by show _ = _; rw [HL.out, Pq.lexFrom_bad hl HB.out hte]; simp
                  refine ⟨hbel5, ?_⟩
                  rw [HEN.out]; unfold TokPost; rw [if_neg (by simp)]; rfl
                · have hte : k < Pq.tokEnd s.data.toList k := by have := HOK.out.1; rw [hbb] at this; simpa using this
                  have hej := HOK.out.2 hte
                  go_wp2_with (first | (at_builtin; refine wpList_append_lies _ rfl (.tmp 84) (.tmp 88) 66 rfl w.heap.size 74 i0 _ 2 24 Tryd.underlying66 hi hz0 hz1 hz2 rfl (by decide) _ ts.length (rtoks ts) rfl (hown5.alloc _) _ 1 1 [.string xx, .int .i64 (k : Int)] rfl rfl (World.news_of_block (alloc_at (by simp))) (by intro u hu; simp at hu; rcases hu with rfl | rfl <;> rfl) (by decide) (by unfold maxLen; omega) (by omega) (by have := hbel5.size; simp; omega) _ rfl ?_; intro g5 cap5 w5 hown6 hgrow5 hat5 hlt5; have B5 : Below w.heap.size w w5 := (hbel5.alloc hbel5.size _).grown hgrow5 (by have := hbel5.size; simp; omega) (fun b hb => (hown5.lt b hb).1); clear hgrow5 hat5 hlt5))
                  go_roundw
                  case rel =>
                    refine ⟨j, ts ++ [{ text := (s.data.toList.take j).drop k, at' := k, num := Pq.isDig s[k] }], by omega, by go_num, by simp; omega, ?_, B5, ?_⟩
                    · rw [rtoks_snoc, rtok]
                      simp only [List.length_append, List.length_cons, List.length_nil]
                      rw [← extract_eq, hxe]; exact hown6
                    · show _ = _
                      rw [HL.out, Pq.lexFrom_tok hl HB.out hte, hej]; simp; rfl
                  case measure => simp [intOf]; omega


      · have HE : Hid (Pq.lexFrom s.data.toList 0 = (ts ++ (Pq.lexFrom s.data.toList (k + 1)).1, (Pq.lexFrom s.data.toList (k + 1)).2)) := by show _ = _; rw [HL.out, Pq.lexFrom_blk hl hb]
        clear HL
        cases h32 : ((s[k].toNat : Int) == 32)
        · have h10 : ((s[k].toNat : Int) == 10) = true := by unfold Pq.isBlk at hb; rw [h32] at hb; simpa using hb
          clear hb
          go_wp2
          go_roundw
          case rel => exact ⟨k + 1, ts, by omega, by go_num, by omega, hown, hbel, HE⟩
          case measure => simp [intOf]; omega
        · clear hb
          go_wp2
          go_roundw
          case rel => exact ⟨k + 1, ts, by omega, by go_num, by omega, hown, hbel, HE⟩
          case measure => simp [intOf]; omega
    · have HE : Hid (Pq.lexFrom s.data.toList 0 = (ts, -1)) := by show _ = _; rw [HL.out, Pq.lexFrom_end (by simpa using hlt)]; simp
      go_wp2
      go_ret2
      refine ⟨hbel, ?_⟩
      rw [HE.out]; unfold TokPost; rw [if_pos rfl]
      exact ⟨_, rfl, hown⟩
end Go.Proofs.YtcoofnhdbejnpaaDoor
