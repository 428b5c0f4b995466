/- Package queries: worth, split. -/
import Derived.Test.YtcoofnhdbejnpaaDoorQa
import Derived.Deep.RegionHeld3
import Derived.Deep.AppendLies
namespace Go.Proofs.YtcoofnhdbejnpaaDoor
open Go.RowKit
theorem take_snoc (s : ByteArray) (k : Nat) (h : k < s.size) : s.data.toList.take (k + 1) = s.data.toList.take k ++ [s[k]] := by
  rw [List.take_succ_eq_append_getElem (by simpa using h)]; rfl
theorem mem_data (s : ByteArray) (k : Nat) (h : k < s.size) : s[k] ∈ s.data.toList := by
  have e : s[k] = s.data.toList[k]'(by simpa using h) := rfl
  rw [e]; exact List.getElem_mem _
theorem ret_int {k : IntKind} {a b : Int} (h : a = b) : Ending.returned (.int k a) = .returned (.int k b) := by rw [h]
set_option maxHeartbeats 400000 in
theorem worth_any (s : ByteArray) (w : World) (hs : s.size ≤ 2) (hd : Hid (∀ c ∈ s.data.toList, Pq.isDig c = true)) :
    Calls Tryd.prog 82 #[.string s] w fun e w' => e = .returned (.int .i64 (Pq.worth s.data.toList)) ∧ w' = w := by
  go_enter Tryd.func82, Tryd.ntmps82
  go_wp2
  go_loop [3, 4] (fun n i => ∃ k : Nat, k ≤ s.size ∧ i = .int .i64 k ∧ n = .int .i64 (Pq.worth (s.data.toList.take k))) (fun _ i => s.size - (intOf i).toNat)
  case atStart => exact ⟨0, Nat.zero_le _, rfl, rfl⟩
  case round =>
    obtain ⟨k, hk, rfl, rfl⟩ := hrel
    have hb := Pq.worth_bd 2 (s.data.toList.take k) (by simp; omega) (fun c hc => hd.out c (List.mem_of_mem_take hc))
    have hb1 := hb.1
    have hb2 : Pq.worth (s.data.toList.take k) ≤ 99 := by have := hb.2; simp at this; omega
    clear hb
    by_cases hlt : k < s.size
    · have hc : Pq.isDig s[k] = true := hd.out _ (mem_data s k hlt)
      simp only [Pq.isDig, Bool.and_eq_true, decide_eq_true_eq] at hc
      obtain ⟨hc1, hc2⟩ := hc
      have HS : Hid (Pq.worth (s.data.toList.take (k + 1)) = Pq.worth (s.data.toList.take k) * 10 + ((s[k].toNat : Int) - 48)) := by
        show _ = _; rw [take_snoc s k hlt, Pq.worth_snoc]
      go_wp2
      go_round
      case rel => exact ⟨k + 1, by omega, by go_num, by rw [HS.out]⟩
      case measure => simp [intOf]; omega
    · go_wp2
      go_ret
      exact ⟨ret_int (by rw [List.take_of_length_le (by simp; omega)]), rfl⟩
/-- a token's three cells -/
def tokCells (t : Pq.Tok) : List Value := [.string ⟨t.text.toArray⟩, .int .i64 (t.at' : Nat), .bool t.num]
def toksCells (ts : List Pq.Tok) : List Value := ts.flatMap tokCells
theorem toksCells_snoc (ts : List Pq.Tok) (t : Pq.Tok) : toksCells (ts ++ [t]) = toksCells ts ++ tokCells t := by simp [toksCells]
theorem infoTok : (Tryd.prog.info? 104).map (fun i => (i.zero, i.size, i.bytes)) = some (some (.agg #[.string ⟨#[]⟩, .int .i64 0, .bool false]), 3, 32) := by kernel_rfl
theorem extract_eq (s : ByteArray) (a b : Nat) : s.extract a b = ⟨((s.data.toList.take b).drop a).toArray⟩ := by
  obtain ⟨⟨l⟩⟩ := s
  rw [ByteArray.extract_mk]; simp [List.drop_take]
/-- what split answers: a list of its own, or nothing and the place of the fault -/
def SplitPost (r : List Pq.Tok × Int) (B : Nat) (e : Ending) (w' : World) : Prop :=
  if r.2 = -1 then ∃ g cap, e = .returned (.tuple #[.slice (some ⟨g, 0, none⟩) r.1.length cap, .int .i64 (-1)]) ∧ w'.ownsRow B 104 3 (.slice (some ⟨g, 0, none⟩) r.1.length cap) r.1.length (toksCells r.1)
  else e = .returned (.tuple #[.slice none 0 0, .int .i64 r.2])
set_option maxRecDepth 100000 in
set_option maxHeartbeats 400000 in
theorem split_any (s : ByteArray) (w : World) (hs : s.size ≤ 300) :
    Calls Tryd.prog 26 #[.string s] w fun e w' => Below w.heap.size w w' ∧ SplitPost (Pq.lexFrom s.data.toList 0) w.heap.size e w' := by
  obtain ⟨i0, hi, hz0, hz1, hz2⟩ := info_parts infoTok
  go_enter Tryd.func26, Tryd.ntmps26
  go_wp2_with fail
  go_loopw [4, 5] (fun v i wr => ∃ (k : Nat) (ts : List Pq.Tok), k ≤ s.size ∧ i = .int .i64 k ∧ ts.length ≤ k ∧ (∃ g cap, v = .slice (some ⟨g, 0, none⟩) ts.length cap) ∧ wr.ownsRow w.heap.size 104 3 v ts.length (toksCells ts) ∧ Below w.heap.size w wr ∧
      Hid (Pq.lexFrom s.data.toList 0 = (ts ++ (Pq.lexFrom s.data.toList k).1, (Pq.lexFrom s.data.toList k).2))) (fun _ i _ => s.size - (intOf i).toNat)
  case atStart => exact ⟨0, [], Nat.zero_le _, rfl, Nat.zero_le _, ⟨_, _, rfl⟩, World.ownsRow_made w #[] 0 (Nat.le_refl _) (by decide) rfl, (Below.refl _ _).alloc (Nat.le_refl _) _, by show _ = _; simp⟩
  case round =>
    obtain ⟨k, ts, hk, rfl, hts, hvv, hown, hbel, HL⟩ := hrel
    have HV := hide hvv
    clear hvv
    by_cases hlt : k < s.size
    · have hl : k < s.data.toList.length := by simpa using hlt
      cases hb : Pq.isBlk s[k]
      · have h1 := Pq.tokEnd_ge s.data.toList k
        have h2 := Pq.tokEnd_le s.data.toList k (by omega)
        have hz : s.data.toList.length = s.size := by simp
        rw [hz] at h2
        clear hz
        by_cases he : Pq.tokEnd s.data.toList k ≤ k
        · have HE : Hid (Pq.lexFrom s.data.toList 0 = (ts, (k : Int))) := by show _ = _; rw [HL.out, Pq.lexFrom_bad hl hb he]; simp
          go_wp2_with (first | (go_at_call 38; refine (isBlank_any _ _).mono ?_; rintro e w' ⟨rfl, rfl⟩) | (go_at_call 39; refine (tokenEnd_any _ _ _ (by unfold maxLen; omega) (by omega)).mono ?_; rintro e w' ⟨rfl, rfl⟩))
          go_ret2
          refine ⟨hbel, ?_⟩
          rw [HE.out]; unfold SplitPost; rw [if_neg (by simp)]; rfl
        · have HE : Hid (Pq.lexFrom s.data.toList 0 = ((ts ++ [{ text := (s.data.toList.take (Pq.tokEnd s.data.toList k)).drop k, at' := k, num := Pq.isDig s[k] }]) ++ (Pq.lexFrom s.data.toList (Pq.tokEnd s.data.toList k)).1, (Pq.lexFrom s.data.toList (Pq.tokEnd s.data.toList k)).2)) := by
            show _ = _; rw [HL.out, Pq.lexFrom_tok hl hb (by omega)]; simp; rfl
          clear HL
          generalize hte : Pq.tokEnd s.data.toList k = te at *
          go_wp2_with (first | (go_at_call 38; refine (isBlank_any _ _).mono ?_; rintro e w' ⟨rfl, rfl⟩) | (go_at_call 39; refine (tokenEnd_any _ _ _ (by unfold maxLen; omega) (by omega)).mono ?_; rintro e w' ⟨rfl, rfl⟩))
          go_region_held3 (fun _ => True) (trivial) (first | (go_at_call 40; refine (isDigit_any _ _).mono ?_; rintro e w' ⟨rfl, rfl⟩) | (refine step_append_lies _ rfl (.tmp 25) (.tmp 36) 78 rfl w.heap.size 104 i0 _ 3 32 Tryd.underlying78 hi hz0 hz1 hz2 rfl (by decide) _ ts.length (toksCells ts) rfl (hown.alloc _).drew _ 1 1 [.string (s.extract k te), .int .i64 (k : Int), .bool (Pq.isDig s[k])] rfl rfl (World.news_of_block (heap_alloc_new _ _)) (by intro u hu; simp at hu; rcases hu with rfl | rfl | rfl <;> rfl) (by decide) (by unfold maxLen; omega) (by omega) (by have := hbel.size; simp; omega) _ rfl ?_; intro g cap w1 hown1 hgrow hat hltg))
          have hsz := hbel.size
          have hbel1 : Below w.heap.size w w1 := ((hbel.alloc hsz _).drew).grown hgrow (by simp; omega) (fun b hb => (hown.lt b hb).1)
          go_wp2
          go_roundw
          case rel =>
            refine ⟨te, ts ++ [{ text := (s.data.toList.take te).drop k, at' := k, num := Pq.isDig s[k] }], by omega, by go_num, by simp; omega, ⟨g, cap, by simp⟩, ?_, hbel1, HE⟩
            rw [toksCells_snoc, tokCells]
            simp only [List.length_append, List.length_cons, List.length_nil]
            rw [← extract_eq]; exact hown1
          case measure => simp [intOf]; omega
      · have HE : Hid (Pq.lexFrom s.data.toList 0 = (ts ++ (Pq.lexFrom s.data.toList (k + 1)).1, (Pq.lexFrom s.data.toList (k + 1)).2)) := by show _ = _; rw [HL.out, Pq.lexFrom_blk hl hb]
        go_wp2_with (go_at_call 38; refine (isBlank_any _ _).mono ?_; rintro e w' ⟨rfl, rfl⟩)
        go_roundw
        case rel => exact ⟨k + 1, ts, by omega, by go_num, by omega, HV.out, hown, hbel, HE⟩
        case measure => simp [intOf]; omega
    · have HE : Hid (Pq.lexFrom s.data.toList 0 = (ts, -1)) := by show _ = _; rw [HL.out, Pq.lexFrom_end (by simpa using hlt)]; simp
      go_wp2
      go_ret2
      refine ⟨hbel, ?_⟩
      rw [HE.out]; unfold SplitPost; rw [if_pos rfl]
      obtain ⟨g, cap, rfl⟩ := HV.out
      exact ⟨g, cap, rfl, hown⟩
end Go.Proofs.YtcoofnhdbejnpaaDoor
