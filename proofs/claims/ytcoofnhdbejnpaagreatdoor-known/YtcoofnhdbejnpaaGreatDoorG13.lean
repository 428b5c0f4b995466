/- The leaves of package queries: what they answer. -/
import Derived.Test.YtcoofnhdbejnpaaGreatDoorProg
import Derived.WalkSpells
import Derived.WalkLawsBesides
import Derived.Test.YtcoofnhdbejnpaaGreatDoorG00
import Derived.Deep.RegionHeld3
import Derived.Deep.AppendLies
import Derived.Deep.QuietTactic
import Derived.BigQuiet
namespace Go.Proofs.YtcoofnhdbejnpaaGreatDoor
open Go.RowKit
theorem hide {p : Prop} (h : p) : Hid p := h
set_option maxHeartbeats 400000 in
theorem isBlank_any (c : UInt8) (w : World) :
    Calls Tryz.prog 121 #[.int .u8 (c.toNat : Int)] w fun e w' => e = .returned (.bool (Pq.isBlk c)) ∧ w' = w := by
  unfold Pq.isBlk
  go_enter Tryz.func121, Tryz.ntmps121
  go_wp2
  all_goals (go_ret; first | (simp [*]; done) | (simp [*]; omega))
set_option maxHeartbeats 400000 in
theorem isSign_any (c : UInt8) (w : World) :
    Calls Tryz.prog 163 #[.int .u8 (c.toNat : Int)] w fun e w' => e = .returned (.bool (Pq.isSgn c)) ∧ w' = w := by
  unfold Pq.isSgn
  go_enter Tryz.func163, Tryz.ntmps163
  go_wp2
  all_goals (go_ret; first | (simp [*]; done) | (simp [*]; omega))
set_option maxHeartbeats 400000 in
theorem isDigit_any (c : UInt8) (w : World) :
    Calls Tryz.prog 123 #[.int .u8 (c.toNat : Int)] w fun e w' => e = .returned (.bool (Pq.isDig c)) ∧ w' = w := by
  unfold Pq.isDig
  go_enter Tryz.func123, Tryz.ntmps123
  go_wp2
  all_goals (go_ret; first | (simp [*]; done) | (simp [*]; omega))
set_option maxHeartbeats 400000 in
theorem isLetter_any (c : UInt8) (w : World) :
    Calls Tryz.prog 165 #[.int .u8 (c.toNat : Int)] w fun e w' => e = .returned (.bool (Pq.isLet c)) ∧ w' = w := by
  unfold Pq.isLet
  go_enter Tryz.func165, Tryz.ntmps165
  go_wp2
  all_goals (go_ret; first | (simp [*]; done) | (simp [*]; omega))
set_option maxHeartbeats 400000 in
theorem digitsEnd_any (s : ByteArray) (n : Nat) (w : World) (hs : s.size ≤ maxLen) (hn : n ≤ s.size) :
    Calls Tryz.prog 164 #[.string s, .int .i64 n] w fun e w' => e = .returned (.int .i64 (Pq.rowEnd Pq.isDig s.data.toList n : Nat)) ∧ w' = w := by
  unfold maxLen at hs
  go_enter Tryz.func164, Tryz.ntmps164
  go_wp2
  go_loop [1] (fun i => ∃ k : Nat, k ≤ s.size ∧ i = .int .i64 k ∧ Hid (Pq.rowEnd Pq.isDig s.data.toList n = Pq.rowEnd Pq.isDig s.data.toList k)) (fun i => s.size - (intOf i).toNat)
  case atStart => exact ⟨n, hn, rfl, rfl⟩
  case round =>
    obtain ⟨k, hk, rfl, HE⟩ := hrel
    by_cases hlt : k < s.size
    · have hl : k < s.data.toList.length := by simpa using hlt
      by_cases hd : Pq.isDig s[k] = true
      · go_wp2_with (go_at_call 123; refine (isDigit_any _ _).mono ?_; rintro e w' ⟨rfl, rfl⟩)
        go_round
        case rel => exact ⟨k + 1, by omega, by go_num, HE.out.trans (Pq.rowEnd_step hl hd)⟩
        case measure => simp [intOf]; omega
      · have hd' : Pq.isDig s[k] = false := by simpa using hd
        go_wp2_with (go_at_call 123; refine (isDigit_any _ _).mono ?_; rintro e w' ⟨rfl, rfl⟩)
        go_ret
        refine ⟨?_, rfl⟩
        rw [HE.out, Pq.rowEnd_stop hl hd']; rfl
    · go_wp2
      go_ret
      refine ⟨?_, rfl⟩
      rw [HE.out, Pq.rowEnd_end (by simpa using hlt)]; rfl
set_option maxHeartbeats 400000 in
theorem lettersEnd_any (s : ByteArray) (n : Nat) (w : World) (hs : s.size ≤ maxLen) (hn : n ≤ s.size) :
    Calls Tryz.prog 166 #[.string s, .int .i64 n] w fun e w' => e = .returned (.int .i64 (Pq.rowEnd Pq.isLet s.data.toList n : Nat)) ∧ w' = w := by
  unfold maxLen at hs
  go_enter Tryz.func166, Tryz.ntmps166
  go_wp2
  go_loop [1] (fun i => ∃ k : Nat, k ≤ s.size ∧ i = .int .i64 k ∧ Hid (Pq.rowEnd Pq.isLet s.data.toList n = Pq.rowEnd Pq.isLet s.data.toList k)) (fun i => s.size - (intOf i).toNat)
  case atStart => exact ⟨n, hn, rfl, rfl⟩
  case round =>
    obtain ⟨k, hk, rfl, HE⟩ := hrel
    by_cases hlt : k < s.size
    · have hl : k < s.data.toList.length := by simpa using hlt
      by_cases hd : Pq.isLet s[k] = true
      · go_wp2_with (go_at_call 165; refine (isLetter_any _ _).mono ?_; rintro e w' ⟨rfl, rfl⟩)
        go_round
        case rel => exact ⟨k + 1, by omega, by go_num, HE.out.trans (Pq.rowEnd_step hl hd)⟩
        case measure => simp [intOf]; omega
      · have hd' : Pq.isLet s[k] = false := by simpa using hd
        go_wp2_with (go_at_call 165; refine (isLetter_any _ _).mono ?_; rintro e w' ⟨rfl, rfl⟩)
        go_ret
        refine ⟨?_, rfl⟩
        rw [HE.out, Pq.rowEnd_stop hl hd']; rfl
    · go_wp2
      go_ret
      refine ⟨?_, rfl⟩
      rw [HE.out, Pq.rowEnd_end (by simpa using hlt)]; rfl
set_option maxHeartbeats 400000 in
theorem tokenEnd_any (s : ByteArray) (n : Nat) (w : World) (hs : s.size ≤ maxLen) (hn : n ≤ s.size) :
    Calls Tryz.prog 122 #[.string s, .int .i64 n] w fun e w' => e = .returned (.int .i64 (Pq.tokEnd s.data.toList n : Nat)) ∧ w' = w := by
  have hs' := hs
  unfold maxLen at hs
  by_cases hlt : n < s.size
  · have hl : n < s.data.toList.length := by simpa using hlt
    have h1 := Pq.rowEnd_ge Pq.isDig s.data.toList n; have h2 := Pq.rowEnd_ge Pq.isLet s.data.toList n
    have h3 := Pq.rowEnd_le Pq.isDig s.data.toList n (by omega); have h4 := Pq.rowEnd_le Pq.isLet s.data.toList n (by omega)
    have hz : s.data.toList.length = s.size := by simp
    rw [hz] at h3 h4
    clear hz
    have he : Hid (Pq.tokEnd s.data.toList n = if Pq.isSgn s[n] then n + 1 else if Pq.isDig s[n] then (if Pq.rowEnd Pq.isDig s.data.toList n - n > 2 then n else Pq.rowEnd Pq.isDig s.data.toList n)
        else if Pq.isLet s[n] then (if Pq.rowEnd Pq.isLet s.data.toList n - n > 8 then n else Pq.rowEnd Pq.isLet s.data.toList n) else n) := by
      show _ = _; unfold Pq.tokEnd; rw [dif_pos hl]; rfl
    cases hS : Pq.isSgn s[n]
    · cases hD : Pq.isDig s[n]
      · cases hL : Pq.isLet s[n]
        · go_enter Tryz.func122, Tryz.ntmps122
          go_wp2_with (first | (go_at_call 163; refine (isSign_any _ _).mono ?_; rintro e w' ⟨rfl, rfl⟩) | (go_at_call 123; refine (isDigit_any _ _).mono ?_; rintro e w' ⟨rfl, rfl⟩) | (go_at_call 165; refine (isLetter_any _ _).mono ?_; rintro e w' ⟨rfl, rfl⟩) | (go_at_call 164; refine (digitsEnd_any _ _ _ hs' hn).mono ?_; rintro e w' ⟨rfl, rfl⟩) | (go_at_call 166; refine (lettersEnd_any _ _ _ hs' hn).mono ?_; rintro e w' ⟨rfl, rfl⟩))
          go_ret
          refine ⟨?_, rfl⟩
          rw [he.out]; simp [hS, hD, hL]
        · by_cases h8 : Pq.rowEnd Pq.isLet s.data.toList n - n > 8
          all_goals
            go_enter Tryz.func122, Tryz.ntmps122
            go_wp2_with (first | (go_at_call 163; refine (isSign_any _ _).mono ?_; rintro e w' ⟨rfl, rfl⟩) | (go_at_call 123; refine (isDigit_any _ _).mono ?_; rintro e w' ⟨rfl, rfl⟩) | (go_at_call 165; refine (isLetter_any _ _).mono ?_; rintro e w' ⟨rfl, rfl⟩) | (go_at_call 164; refine (digitsEnd_any _ _ _ hs' hn).mono ?_; rintro e w' ⟨rfl, rfl⟩) | (go_at_call 166; refine (lettersEnd_any _ _ _ hs' hn).mono ?_; rintro e w' ⟨rfl, rfl⟩))
            go_ret
            refine ⟨?_, rfl⟩
            rw [he.out]; simp [hS, hD, hL, h8]
      · by_cases h8 : Pq.rowEnd Pq.isDig s.data.toList n - n > 2
        all_goals
          go_enter Tryz.func122, Tryz.ntmps122
          go_wp2_with (first | (go_at_call 163; refine (isSign_any _ _).mono ?_; rintro e w' ⟨rfl, rfl⟩) | (go_at_call 123; refine (isDigit_any _ _).mono ?_; rintro e w' ⟨rfl, rfl⟩) | (go_at_call 165; refine (isLetter_any _ _).mono ?_; rintro e w' ⟨rfl, rfl⟩) | (go_at_call 164; refine (digitsEnd_any _ _ _ hs' hn).mono ?_; rintro e w' ⟨rfl, rfl⟩) | (go_at_call 166; refine (lettersEnd_any _ _ _ hs' hn).mono ?_; rintro e w' ⟨rfl, rfl⟩))
          go_ret
          refine ⟨?_, rfl⟩
          rw [he.out]; simp [hS, hD, h8]
    · go_enter Tryz.func122, Tryz.ntmps122
      go_wp2_with (first | (go_at_call 163; refine (isSign_any _ _).mono ?_; rintro e w' ⟨rfl, rfl⟩) | (go_at_call 123; refine (isDigit_any _ _).mono ?_; rintro e w' ⟨rfl, rfl⟩) | (go_at_call 165; refine (isLetter_any _ _).mono ?_; rintro e w' ⟨rfl, rfl⟩) | (go_at_call 164; refine (digitsEnd_any _ _ _ hs' hn).mono ?_; rintro e w' ⟨rfl, rfl⟩) | (go_at_call 166; refine (lettersEnd_any _ _ _ hs' hn).mono ?_; rintro e w' ⟨rfl, rfl⟩))
      go_ret
      refine ⟨?_, rfl⟩
      rw [he.out]; simp [hS]
  · go_enter Tryz.func122, Tryz.ntmps122
    go_wp2
    go_ret
    refine ⟨?_, rfl⟩
    unfold Pq.tokEnd; rw [dif_neg (by simpa using hlt)]; rfl
end Go.Proofs.YtcoofnhdbejnpaaGreatDoor

/- Package queries: worth, split. -/
namespace Go.Proofs.YtcoofnhdbejnpaaGreatDoor
open Go.RowKit
theorem take_snoc (s : ByteArray) (k : Nat) (h : k < s.size) : s.data.toList.take (k + 1) = s.data.toList.take k ++ [s[k]] := by
  rw [List.take_succ_eq_append_getElem (by simpa using h)]; rfl
theorem mem_data (s : ByteArray) (k : Nat) (h : k < s.size) : s[k] ∈ s.data.toList := by
  have e : s[k] = s.data.toList[k]'(by simpa using h) := rfl
  rw [e]; exact List.getElem_mem _
theorem ret_int {k : IntKind} {a b : Int} (h : a = b) : Ending.returned (.int k a) = .returned (.int k b) := by rw [h]
set_option maxHeartbeats 400000 in
theorem worth_any (s : ByteArray) (w : World) (hs : s.size ≤ 2) (hd : Hid (∀ c ∈ s.data.toList, Pq.isDig c = true)) :
    Calls Tryz.prog 196 #[.string s] w fun e w' => e = .returned (.int .i64 (Pq.worth s.data.toList)) ∧ w' = w := by
  go_enter Tryz.func196, Tryz.ntmps196
  go_wp2
  go_loop [3, 4] (fun n i => ∃ k : Nat, k ≤ s.size ∧ i = .int .i64 k ∧ n = .int .i64 (Pq.worth (s.data.toList.take k))) (fun _ i => s.size - (intOf i).toNat)
  case atStart => exact ⟨0, Nat.zero_le _, rfl, rfl⟩
  case round =>
    obtain ⟨k, hk, rfl, rfl⟩ := hrel
    have hb := Pq.worth_bd 2 (s.data.toList.take k) (by simp; omega) (fun c hc => hd.out c (List.mem_of_mem_take hc))
    have hb1 := hb.1
    have hb2 : Pq.worth (s.data.toList.take k) ≤ 99 := by have := hb.2; simp at this; omega
    clear hb
    by_cases hlt : k < s.size
    · have hc : Pq.isDig s[k] = true := hd.out _ (mem_data s k hlt)
      simp only [Pq.isDig, Bool.and_eq_true, decide_eq_true_eq] at hc
      obtain ⟨hc1, hc2⟩ := hc
      have HS : Hid (Pq.worth (s.data.toList.take (k + 1)) = Pq.worth (s.data.toList.take k) * 10 + ((s[k].toNat : Int) - 48)) := by
        show _ = _; rw [take_snoc s k hlt, Pq.worth_snoc]
      go_wp2
      go_round
      case rel => exact ⟨k + 1, by omega, by go_num, by rw [HS.out]⟩
      case measure => simp [intOf]; omega
    · go_wp2
      go_ret
      exact ⟨ret_int (by rw [List.take_of_length_le (by simp; omega)]), rfl⟩
/-- a token's three cells -/
def tokCells (t : Pq.Tok) : List Value := [.string ⟨t.text.toArray⟩, .int .i64 (t.at' : Nat), .bool t.num]
def toksCells (ts : List Pq.Tok) : List Value := ts.flatMap tokCells
theorem toksCells_snoc (ts : List Pq.Tok) (t : Pq.Tok) : toksCells (ts ++ [t]) = toksCells ts ++ tokCells t := by simp [toksCells]
theorem infoTok : (Tryz.prog.info? 206).map (fun i => (i.zero, i.size, i.bytes)) = some (some (.agg #[.string ⟨#[]⟩, .int .i64 0, .bool false]), 3, 32) := by kernel_rfl
theorem extract_eq (s : ByteArray) (a b : Nat) : s.extract a b = ⟨((s.data.toList.take b).drop a).toArray⟩ := by
  obtain ⟨⟨l⟩⟩ := s
  rw [ByteArray.extract_mk]; simp [List.drop_take]
/-- what split answers: a list of its own, or nothing and the place of the fault -/
def SplitPost (r : List Pq.Tok × Int) (B : Nat) (e : Ending) (w' : World) : Prop :=
  if r.2 = -1 then ∃ g cap, e = .returned (.tuple #[.slice (some ⟨g, 0, none⟩) r.1.length cap, .int .i64 (-1)]) ∧ w'.ownsRow B 206 3 (.slice (some ⟨g, 0, none⟩) r.1.length cap) r.1.length (toksCells r.1)
  else e = .returned (.tuple #[.slice none 0 0, .int .i64 r.2])
set_option maxRecDepth 100000 in
set_option maxHeartbeats 400000 in
theorem split_any (s : ByteArray) (w : World) (hs : s.size ≤ 300) :
    Calls Tryz.prog 93 #[.string s] w fun e w' => Below w.heap.size w w' ∧ SplitPost (Pq.lexFrom s.data.toList 0) w.heap.size e w' := by
  obtain ⟨i0, hi, hz0, hz1, hz2⟩ := info_parts infoTok
  go_enter Tryz.func93, Tryz.ntmps93
  go_wp2_with fail
  go_loopw [4, 5] (fun v i wr => ∃ (k : Nat) (ts : List Pq.Tok), k ≤ s.size ∧ i = .int .i64 k ∧ ts.length ≤ k ∧ (∃ g cap, v = .slice (some ⟨g, 0, none⟩) ts.length cap) ∧ wr.ownsRow w.heap.size 206 3 v ts.length (toksCells ts) ∧ Below w.heap.size w wr ∧
      Hid (Pq.lexFrom s.data.toList 0 = (ts ++ (Pq.lexFrom s.data.toList k).1, (Pq.lexFrom s.data.toList k).2))) (fun _ i _ => s.size - (intOf i).toNat)
  case atStart => exact ⟨0, [], Nat.zero_le _, rfl, Nat.zero_le _, ⟨_, _, rfl⟩, World.ownsRow_made w #[] 0 (Nat.le_refl _) (by decide) rfl, (Below.refl _ _).alloc (Nat.le_refl _) _, by show _ = _; simp⟩
  case round =>
    obtain ⟨k, ts, hk, rfl, hts, hvv, hown, hbel, HL⟩ := hrel
    have HV := hide hvv
    clear hvv
    by_cases hlt : k < s.size
    · have hl : k < s.data.toList.length := by simpa using hlt
      cases hb : Pq.isBlk s[k]
      · have h1 := Pq.tokEnd_ge s.data.toList k
        have h2 := Pq.tokEnd_le s.data.toList k (by omega)
        have hz : s.data.toList.length = s.size := by simp
        rw [hz] at h2
        clear hz
        by_cases he : Pq.tokEnd s.data.toList k ≤ k
        · have HE : Hid (Pq.lexFrom s.data.toList 0 = (ts, (k : Int))) := by show _ = _; rw [HL.out, Pq.lexFrom_bad hl hb he]; simp
          go_wp2_with (first | (go_at_call 121; refine (isBlank_any _ _).mono ?_; rintro e w' ⟨rfl, rfl⟩) | (go_at_call 122; refine (tokenEnd_any _ _ _ (by unfold maxLen; omega) (by omega)).mono ?_; rintro e w' ⟨rfl, rfl⟩))
          go_ret2
          refine ⟨hbel, ?_⟩
          rw [HE.out]; unfold SplitPost; rw [if_neg (by simp)]; rfl
        · have HE : Hid (Pq.lexFrom s.data.toList 0 = ((ts ++ [{ text := (s.data.toList.take (Pq.tokEnd s.data.toList k)).drop k, at' := k, num := Pq.isDig s[k] }]) ++ (Pq.lexFrom s.data.toList (Pq.tokEnd s.data.toList k)).1, (Pq.lexFrom s.data.toList (Pq.tokEnd s.data.toList k)).2)) := by
            show _ = _; rw [HL.out, Pq.lexFrom_tok hl hb (by omega)]; simp; rfl
          clear HL
          generalize hte : Pq.tokEnd s.data.toList k = te at *
          go_wp2_with (first | (go_at_call 121; refine (isBlank_any _ _).mono ?_; rintro e w' ⟨rfl, rfl⟩) | (go_at_call 122; refine (tokenEnd_any _ _ _ (by unfold maxLen; omega) (by omega)).mono ?_; rintro e w' ⟨rfl, rfl⟩))
          go_region_held3 (fun _ => True) (trivial) (first | (go_at_call 123; refine (isDigit_any _ _).mono ?_; rintro e w' ⟨rfl, rfl⟩) | (refine step_append_lies _ rfl (.tmp 25) (.tmp 36) 161 rfl w.heap.size 206 i0 _ 3 32 Tryz.underlying161 hi hz0 hz1 hz2 rfl (by decide) _ ts.length (toksCells ts) rfl (hown.alloc _).drew _ 1 1 [.string (s.extract k te), .int .i64 (k : Int), .bool (Pq.isDig s[k])] rfl rfl (World.news_of_block (heap_alloc_new _ _)) (by intro u hu; simp at hu; rcases hu with rfl | rfl | rfl <;> rfl) (by decide) (by unfold maxLen; omega) (by omega) (by have := hbel.size; simp; omega) _ rfl ?_; intro g cap w1 hown1 hgrow hat hltg))
          have hsz := hbel.size
          have hbel1 : Below w.heap.size w w1 := ((hbel.alloc hsz _).drew).grown hgrow (by simp; omega) (fun b hb => (hown.lt b hb).1)
          go_wp2
          go_roundw
          case rel =>
            refine ⟨te, ts ++ [{ text := (s.data.toList.take te).drop k, at' := k, num := Pq.isDig s[k] }], by omega, by go_num, by simp; omega, ⟨g, cap, by simp⟩, ?_, hbel1, HE⟩
            rw [toksCells_snoc, tokCells]
            simp only [List.length_append, List.length_cons, List.length_nil]
            rw [← extract_eq]; exact hown1
          case measure => simp [intOf]; omega
      · have HE : Hid (Pq.lexFrom s.data.toList 0 = (ts ++ (Pq.lexFrom s.data.toList (k + 1)).1, (Pq.lexFrom s.data.toList (k + 1)).2)) := by show _ = _; rw [HL.out, Pq.lexFrom_blk hl hb]
        go_wp2_with (go_at_call 121; refine (isBlank_any _ _).mono ?_; rintro e w' ⟨rfl, rfl⟩)
        go_roundw
        case rel => exact ⟨k + 1, ts, by omega, by go_num, by omega, HV.out, hown, hbel, HE⟩
        case measure => simp [intOf]; omega
    · have HE : Hid (Pq.lexFrom s.data.toList 0 = (ts, -1)) := by show _ = _; rw [HL.out, Pq.lexFrom_end (by simpa using hlt)]; simp
      go_wp2
      go_ret2
      refine ⟨hbel, ?_⟩
      rw [HE.out]; unfold SplitPost; rw [if_pos rfl]
      obtain ⟨g, cap, rfl⟩ := HV.out
      exact ⟨g, cap, rfl, hown⟩
end Go.Proofs.YtcoofnhdbejnpaaGreatDoor

/- Package queries: the parser's smallest steps. -/
namespace Go.Proofs.YtcoofnhdbejnpaaGreatDoor
open Go.RowKit
/-- the parser's thirteen cells -/
def psCells (g n cap len : Nat) (vb vk vf : Value) (s : Pq.PS) : Array Value :=
  #[.slice (some ⟨g, 0, none⟩) n cap, .int .i64 (len : Int), .int .i64 (s.next : Int), .bool s.failed, vb, vk, vf, .bool s.hasTop, .int .i64 s.top, .int .i64 s.frm, .int .i64 s.many, .int .i64 s.twice, .int .i64 s.arg]
/-- what a token of digits is -/
def GoodTok (t : Pq.Tok) : Prop := t.num = true → t.text.length ≤ 2 ∧ ∀ c ∈ t.text, Pq.isDig c = true
/-- the parser lies in block b, its tokens in block g -/
structure PIn (w : World) (b g cap len : Nat) (toks : List Pq.Tok) (vb vk vf : Value) (s : Pq.PS) : Prop where
  blk : w.heap[b]? = some (.cells (psCells g toks.length cap len vb vk vf s) 168 (0, 0))
  row : ∃ cur, w.heap[g]? = some (.cells cur 206 (0, 0)) ∧ ∀ (j : Nat) (u : Value), (toksCells toks)[j]? = some u → cur[j]? = some u
  le : s.next ≤ toks.length
  bd : toks.length ≤ 300
  good : ∀ t ∈ toks, GoodTok t
theorem PIn.cells {w : World} {b g cap len : Nat} {toks : List Pq.Tok} {vb vk vf : Value} {s : Pq.PS} (h : PIn w b g cap len toks vb vk vf s) :
    w.cell? ⟨b, 0, none⟩ = some (.slice (some ⟨g, 0, none⟩) toks.length cap) ∧ w.cell? ⟨b, 1, none⟩ = some (.int .i64 (len : Int)) ∧ w.cell? ⟨b, 2, none⟩ = some (.int .i64 (s.next : Int)) ∧ w.cell? ⟨b, 3, none⟩ = some (.bool s.failed) := by
  simp [World.cell?, h.blk, psCells]
theorem PIn.frozen {w : World} {b g cap len : Nat} {toks : List Pq.Tok} {vb vk vf : Value} {s : Pq.PS} (h : PIn w b g cap len toks vb vk vf s) (j : Nat) : w.frozen? ⟨b, j, none⟩ = false := by
  simp [World.frozen?, h.blk]
theorem toksCells_get : ∀ (ts : List Pq.Tok) (n : Nat) (h : n < ts.length), (toksCells ts)[n * 3]? = some (.string ⟨ts[n].text.toArray⟩) ∧ (toksCells ts)[n * 3 + 1]? = some (.int .i64 (ts[n].at' : Int)) ∧ (toksCells ts)[n * 3 + 2]? = some (.bool ts[n].num)
  | [], _, h => by simp at h
  | t :: ts, 0, _ => by simp [toksCells, tokCells]
  | t :: ts, n + 1, h => by
    have ih := toksCells_get ts n (by simpa using h)
    have e1 : (n + 1) * 3 = n * 3 + 3 := by omega
    simp only [toksCells, List.flatMap_cons, List.getElem_cons_succ] at ih ⊢
    have e : (tokCells t).length = 3 := rfl
    rw [e1, List.getElem?_append_right (by omega), List.getElem?_append_right (by omega), List.getElem?_append_right (by omega), e]
    have a1 : n * 3 + 3 - 3 = n * 3 := by omega
    have a2 : n * 3 + 3 + 1 - 3 = n * 3 + 1 := by omega
    have a3 : n * 3 + 3 + 2 - 3 = n * 3 + 2 := by omega
    rw [a1, a2, a3]
    exact ih
theorem PIn.tok {w : World} {b g cap len : Nat} {toks : List Pq.Tok} {vb vk vf : Value} {s : Pq.PS} (h : PIn w b g cap len toks vb vk vf s) (n : Nat) (hn : n < toks.length) :
    w.cell? ⟨g, n * 3, none⟩ = some (.string ⟨toks[n].text.toArray⟩) ∧ w.cell? ⟨g, n * 3 + 1, none⟩ = some (.int .i64 (toks[n].at' : Int)) ∧ w.cell? ⟨g, n * 3 + 2, none⟩ = some (.bool toks[n].num) := by
  obtain ⟨cur, hg, hc⟩ := h.row
  obtain ⟨h0, h1, h2⟩ := toksCells_get toks n hn
  simp only [World.cell?, hg]
  exact ⟨hc _ _ h0, hc _ _ h1, hc _ _ h2⟩
theorem PIn.congr {w w' : World} {b g cap len : Nat} {toks : List Pq.Tok} {vb vk vf : Value} {s : Pq.PS} (h : PIn w b g cap len toks vb vk vf s) (hb : w'.heap[b]? = w.heap[b]?) (hg : w'.heap[g]? = w.heap[g]?) : PIn w' b g cap len toks vb vk vf s :=
  ⟨by rw [hb]; exact h.blk, by rw [hg]; exact h.row, h.le, h.bd, h.good⟩
theorem PIn.drewN {w : World} {b g cap len : Nat} {toks : List Pq.Tok} {vb vk vf : Value} {s : Pq.PS} (h : PIn w b g cap len toks vb vk vf s) (n : Nat) : PIn (w.drewN n) b g cap len toks vb vk vf s := h.congr rfl rfl
theorem PIn.drew {w : World} {b g cap len : Nat} {toks : List Pq.Tok} {vb vk vf : Value} {s : Pq.PS} (h : PIn w b g cap len toks vb vk vf s) : PIn w.drew b g cap len toks vb vk vf s := h.congr rfl rfl
theorem PIn.ne {w : World} {b g cap len : Nat} {toks : List Pq.Tok} {vb vk vf : Value} {s : Pq.PS} (h : PIn w b g cap len toks vb vk vf s) : g ≠ b := by
  intro e
  obtain ⟨cur, hg, _⟩ := h.row
  rw [e, h.blk] at hg
  simp at hg
/-- a store into the parser's block -/
theorem PIn.set {w : World} {b g cap len : Nat} {toks : List Pq.Tok} {vb vk vf : Value} {s : Pq.PS} (h : PIn w b g cap len toks vb vk vf s) (j : Nat) (v : Value) (s' : Pq.PS) (vb' vk' vf' : Value) (hc : (psCells g toks.length cap len vb vk vf s).setIfInBounds j v = psCells g toks.length cap len vb' vk' vf' s') (hl : s'.next ≤ toks.length) :
    PIn (w.setCell ⟨b, j, none⟩ v) b g cap len toks vb' vk' vf' s' := by
  refine ⟨?_, ?_, hl, h.bd, h.good⟩
  · simp [World.setCell, Array.getElem?_modify, h.blk, hc]
  · rw [Below.heap_setCell _ _ _ _ h.ne]; exact h.row
theorem PIn.step {w : World} {b g cap len : Nat} {toks : List Pq.Tok} {vb vk vf : Value} {s : Pq.PS} (h : PIn w b g cap len toks vb vk vf s) (hn : s.next < toks.length) : PIn (w.setCell ⟨b, 2, none⟩ (.int .i64 ((s.next : Int) + 1))) b g cap len toks vb vk vf s.step :=
  h.set 2 _ _ _ _ _ (by simp [psCells, Pq.PS.step]) hn
theorem PIn.fail {w : World} {b g cap len : Nat} {toks : List Pq.Tok} {vb vk vf : Value} {s : Pq.PS} (h : PIn w b g cap len toks vb vk vf s) : PIn (w.setCell ⟨b, 3, none⟩ (.bool true)) b g cap len toks vb vk vf s.fail :=
  h.set 3 _ _ _ _ _ (by simp [psCells, Pq.PS.fail]) h.le
/-- only block b has turned, and new blocks have come -/
def Gb (b : Nat) (w w' : World) : Prop := w.grownBy w' (some b)
theorem Gb.refl (b : Nat) (w : World) : Gb b w w := ⟨rfl, rfl, rfl, Nat.le_refl _, fun _ _ _ => rfl⟩
theorem Gb.trans {b : Nat} {w1 w2 w3 : World} (h : Gb b w1 w2) (k : Gb b w2 w3) : Gb b w1 w3 :=
  ⟨k.os.trans h.os, k.tape.trans h.tape, k.output.trans h.output, Nat.le_trans h.size k.size, fun i hi hn => (k.block i (Nat.lt_of_lt_of_le hi h.size) hn).trans (h.block i hi hn)⟩
theorem Gb.drewN {b : Nat} {w w' : World} (h : Gb b w w') (n : Nat) : Gb b w (w'.drewN n) := h.trans ⟨rfl, rfl, rfl, Nat.le_refl _, fun _ _ _ => rfl⟩
theorem Gb.drew {b : Nat} {w w' : World} (h : Gb b w w') : Gb b w w'.drew := h.trans ⟨rfl, rfl, rfl, Nat.le_refl _, fun _ _ _ => rfl⟩
theorem Gb.set {b : Nat} {w w' : World} (h : Gb b w w') (j : Nat) (v : Value) : Gb b w (w'.setCell ⟨b, j, none⟩ v) :=
  h.trans ⟨rfl, rfl, rfl, by simp [World.setCell], fun k _ hn => Below.heap_setCell _ _ _ _ (by simpa using hn)⟩
theorem Gb.alloc {b : Nat} {w w' : World} (h : Gb b w w') (o : Obj) : Gb b w (w'.alloc o) := h.trans (World.grownBy_alloc _ _ _)
set_option maxHeartbeats 400000 in
theorem place_any {w : World} {b g cap len : Nat} {toks : List Pq.Tok} {vb vk vf : Value} {s : Pq.PS} (h : PIn w b g cap len toks vb vk vf s) :
    Calls Tryz.prog 131 #[.pointer (some ⟨b, 0, none⟩)] w fun e w' => e = .returned (.int .i64 (Pq.placeS toks len s)) ∧ ∃ n, w' = w.drewN n := by
  obtain ⟨c0, c1, c2, c3⟩ := h.cells
  have hle := h.le
  have hbd := h.bd
  by_cases hlt : s.next < toks.length
  · obtain ⟨t0, t1, t2⟩ := h.tok s.next hlt
    have HP : Hid (Pq.placeS toks len s = (toks[s.next].at' : Int)) := by show _ = _; simp [Pq.placeS, hlt]
    clear h
    go_enter Tryz.func131, Tryz.ntmps131
    go_wp2
    go_quiet (fail)
    go_wp2
    go_quiet (fail)
    go_wp2
    go_ret
    refine ⟨by rw [HP.out]; rfl, ?_⟩
    exact ⟨_, World.drewN_drewN _ _ _⟩
  · have HP : Hid (Pq.placeS toks len s = (len : Int)) := by show _ = _; simp [Pq.placeS, show toks.length ≤ s.next by omega]
    clear h
    go_enter Tryz.func131, Tryz.ntmps131
    go_wp2
    go_quiet (fail)
    go_wp2
    go_ret
    exact ⟨by rw [HP.out]; rfl, _, rfl⟩
set_option maxHeartbeats 400000 in
theorem take_any {w : World} {b g cap len : Nat} {toks : List Pq.Tok} {vb vk vf : Value} {s : Pq.PS} (h : PIn w b g cap len toks vb vk vf s) (t : Pq.Bytes) :
    Calls Tryz.prog 124 #[.pointer (some ⟨b, 0, none⟩), .string ⟨t.toArray⟩] w fun e w' => e = .returned (.bool (Pq.takes toks t s)) ∧ PIn w' b g cap len toks vb vk vf (Pq.takeS toks t s) ∧ Gb b w w' := by
  have H := hide h
  obtain ⟨c0, c1, c2, c3⟩ := h.cells
  have hle := h.le
  have hbd := h.bd
  have hfz := h.frozen 2
  cases hf : s.failed
  · by_cases hn : s.next < toks.length
    · obtain ⟨t0, t1, t2⟩ := h.tok s.next hn
      clear h
      have HT : Hid (Pq.takes toks t s = (toks[s.next].text == t)) := by show _ = _; simp [Pq.takes, hf, hn]
      rw [hf] at c3
      go_enter Tryz.func124, Tryz.ntmps124
      go_wp2
      go_quiet (fail)
      go_wp2
      go_quiet (fail)
      go_wp2
      · go_ret
        have hr : Pq.takes toks t s = false := by rw [HT.out]; simpa using ‹(!toks[s.next].text == t) = true›
        unfold Pq.takeS
        rw [hr]
        exact ⟨rfl, (H.out.drewN _).drewN _, ((Gb.refl _ _).drewN _).drewN _⟩
      · go_ret
        have hr : Pq.takes toks t s = true := by rw [HT.out]; simpa using ‹(!toks[s.next].text == t) = false›
        unfold Pq.takeS
        rw [hr]
        exact ⟨rfl, (H.out.drewN _).step hn, ((Gb.refl _ _).drewN _).set _ _⟩
    · clear h
      have HT : Hid (Pq.takes toks t s = false) := by show _ = _; simp [Pq.takes, show toks.length ≤ s.next by omega]
      rw [hf] at c3
      go_enter Tryz.func124, Tryz.ntmps124
      go_wp2
      go_quiet (fail)
      go_wp2
      go_ret
      unfold Pq.takeS
      rw [HT.out]
      exact ⟨rfl, H.out.drewN _, (Gb.refl _ _).drewN _⟩
  · clear h
    have HT : Hid (Pq.takes toks t s = false) := by show _ = _; simp [Pq.takes, hf]
    rw [hf] at c3
    go_enter Tryz.func124, Tryz.ntmps124
    go_wp2
    go_quiet (fail)
    go_wp2
    go_ret
    unfold Pq.takeS
    rw [HT.out]
    exact ⟨rfl, H.out.drewN _, (Gb.refl _ _).drewN _⟩
theorem Pq.takeS_no {toks : List Pq.Tok} {t : Pq.Bytes} {s : Pq.PS} (h : Pq.takes toks t s = false) : Pq.takeS toks t s = s := by simp [Pq.takeS, h]
set_option maxHeartbeats 400000 in
theorem want_any {w : World} {b g cap len : Nat} {toks : List Pq.Tok} {vb vk vf : Value} {s : Pq.PS} (h : PIn w b g cap len toks vb vk vf s) (t : Pq.Bytes) :
    Calls Tryz.prog 126 #[.pointer (some ⟨b, 0, none⟩), .string ⟨t.toArray⟩] w fun e w' => e = .returned (.tuple #[]) ∧ PIn w' b g cap len toks vb vk vf (Pq.wantS toks t s) ∧ Gb b w w' := by
  have H := hide h
  clear h
  cases ht : Pq.takes toks t s
  · have HW : Hid (Pq.wantS toks t s = (Pq.takeS toks t s).fail) := by show _ = _; simp [Pq.wantS, Pq.takeS, ht]
    go_enter Tryz.func126, Tryz.ntmps126
    go_wp2_with fail
    refine (take_any H.out t).mono ?_
    rintro e w1 ⟨rfl, h1, hg1⟩
    have hfz := h1.frozen 3
    have hc3 := h1.cells.2.2.2
    have H1 := hide h1
    clear h1
    go_wp2
    go_end0
    rw [HW.out]
    exact ⟨rfl, H1.out.fail, hg1.set _ _⟩
  · have HW : Hid (Pq.wantS toks t s = Pq.takeS toks t s) := by show _ = _; simp [Pq.wantS, Pq.takeS, ht]
    go_enter Tryz.func126, Tryz.ntmps126
    go_wp2_with fail
    refine (take_any H.out t).mono ?_
    rintro e w1 ⟨rfl, h1, hg1⟩
    have H1 := hide h1
    clear h1
    go_wp2
    go_end0
    rw [HW.out]
    exact ⟨rfl, H1.out, hg1⟩
end Go.Proofs.YtcoofnhdbejnpaaGreatDoor

/- Package queries: names; numbers; one of several words. -/
namespace Go.Proofs.YtcoofnhdbejnpaaGreatDoor
open Go.RowKit
set_option maxHeartbeats 400000 in
theorem colName_any (k : Nat) (hk : k < 3) (w : World) :
    Calls Tryz.prog 188 #[.int .i64 (k : Int)] w fun e w' => e = .returned (.string ⟨(Pq.colTxt k).toArray⟩) ∧ w = w' := by
  match k, hk with
  | 0, _ => (go_enter Tryz.func188, Tryz.ntmps188; go_wp2; go_ret; exact ⟨rfl, rfl⟩)
  | 1, _ => (go_enter Tryz.func188, Tryz.ntmps188; go_wp2; go_ret; exact ⟨rfl, rfl⟩)
  | 2, _ => (go_enter Tryz.func188, Tryz.ntmps188; go_wp2; go_ret; exact ⟨rfl, rfl⟩)
set_option maxHeartbeats 1000000 in
theorem kindName_any (k : Nat) (hk : k < 12) (w : World) :
    Calls Tryz.prog 212 #[.int .i64 (k : Int)] w fun e w' => e = .returned (.string ⟨(Pq.kindTxt k).toArray⟩) ∧ w = w' := by
  match k, hk with
  | 0, _ => (go_enter Tryz.func212, Tryz.ntmps212; go_wp2; go_ret; exact ⟨rfl, rfl⟩)
  | 1, _ => (go_enter Tryz.func212, Tryz.ntmps212; go_wp2; go_ret; exact ⟨rfl, rfl⟩)
  | 2, _ => (go_enter Tryz.func212, Tryz.ntmps212; go_wp2; go_ret; exact ⟨rfl, rfl⟩)
  | 3, _ => (go_enter Tryz.func212, Tryz.ntmps212; go_wp2; go_ret; exact ⟨rfl, rfl⟩)
  | 4, _ => (go_enter Tryz.func212, Tryz.ntmps212; go_wp2; go_ret; exact ⟨rfl, rfl⟩)
  | 5, _ => (go_enter Tryz.func212, Tryz.ntmps212; go_wp2; go_ret; exact ⟨rfl, rfl⟩)
  | 6, _ => (go_enter Tryz.func212, Tryz.ntmps212; go_wp2; go_ret; exact ⟨rfl, rfl⟩)
  | 7, _ => (go_enter Tryz.func212, Tryz.ntmps212; go_wp2; go_ret; exact ⟨rfl, rfl⟩)
  | 8, _ => (go_enter Tryz.func212, Tryz.ntmps212; go_wp2; go_ret; exact ⟨rfl, rfl⟩)
  | 9, _ => (go_enter Tryz.func212, Tryz.ntmps212; go_wp2; go_ret; exact ⟨rfl, rfl⟩)
  | 10, _ => (go_enter Tryz.func212, Tryz.ntmps212; go_wp2; go_ret; exact ⟨rfl, rfl⟩)
  | 11, _ => (go_enter Tryz.func212, Tryz.ntmps212; go_wp2; go_ret; exact ⟨rfl, rfl⟩)
set_option maxHeartbeats 400000 in
theorem readCol_any {w : World} {b g cap len : Nat} {toks : List Pq.Tok} {vb vk vf : Value} {s : Pq.PS} (h : PIn w b g cap len toks vb vk vf s) :
    Calls Tryz.prog 167 #[.pointer (some ⟨b, 0, none⟩)] w fun e w' => e = .returned (.int .i64 (Pq.oneOfV toks Pq.colTxt 3 s : Nat)) ∧ PIn w' b g cap len toks vb vk vf (Pq.oneOfS toks Pq.colTxt 3 s) ∧ Gb b w w' := by
  have H := hide h
  clear h
  go_enter Tryz.func167, Tryz.ntmps167
  go_wp2
  go_loopw [3] (fun i wr => ∃ k : Nat, k ≤ 3 ∧ i = .int .i64 k ∧ Hid (PIn wr b g cap len toks vb vk vf s ∧ Gb b w wr ∧ ∀ j, j < k → Pq.takes toks (Pq.colTxt j) s = false)) (fun i _ => 3 - (intOf i).toNat)
  case atStart => exact ⟨0, by omega, rfl, H.out, Gb.refl _ _, fun j hj => by omega⟩
  case round =>
    obtain ⟨k, hk, rfl, HR⟩ := hrel
    by_cases hlt : k < 3
    · cases ht : Pq.takes toks (Pq.colTxt k) s
      · go_wp2_with (first | (go_at_call 188; refine (colName_any k hlt _).mono ?_; rintro e w' ⟨rfl, rfl⟩) | (go_at_call 124; refine (take_any HR.out.1 _).mono ?_; rintro e w1 ⟨rfl, h1, g1⟩; have H1 := hide h1; clear h1))
        go_roundw
        case rel =>
          refine ⟨k + 1, by omega, by go_num, by have := H1.out; rwa [Pq.takeS_no ht] at this, HR.out.2.1.trans g1, fun j hj => ?_⟩
          rcases Nat.lt_or_eq_of_le (Nat.le_of_lt_succ hj) with hj | rfl
          · exact HR.out.2.2 j hj
          · exact ht
        case measure => simp [intOf]; omega
      · have HF := hide (Pq.firstTake_some hlt HR.out.2.2 ht)
        go_wp2_with (first | (go_at_call 188; refine (colName_any k hlt _).mono ?_; rintro e w' ⟨rfl, rfl⟩) | (go_at_call 124; refine (take_any HR.out.1 _).mono ?_; rintro e w1 ⟨rfl, h1, g1⟩; have H1 := hide h1; clear h1))
        go_ret
        unfold Pq.oneOfV Pq.oneOfS
        rw [HF.out]
        exact ⟨rfl, by have := H1.out; simpa [Pq.takeS, ht] using this, HR.out.2.1.trans g1⟩
    · have hk3 : k = 3 := by omega
      have HF := hide (Pq.firstTake_none (n := 3) (fun j hj => HR.out.2.2 j (by omega)))
      have hfz := HR.out.1.frozen 3
      have hc3 := HR.out.1.cells.2.2.2
      clear hk3
      go_wp2
      go_ret
      unfold Pq.oneOfV Pq.oneOfS
      rw [HF.out]
      exact ⟨rfl, HR.out.1.fail, HR.out.2.1.set _ _⟩
end Go.Proofs.YtcoofnhdbejnpaaGreatDoor

