/- Package panesref: short, twice, number. -/
import Derived.Test.YtcoofnhdbejnpaaDoorWf
import Derived.Test.YtcoofnhdbejnpaaDoorVh
import Derived.Test.YtcoofnhdbejnpaaDoorSh
import Derived.Lib.AtoiErrMem
namespace Go.Proofs.YtcoofnhdbejnpaaDoor
open Go.RowKit
def strSize (v : Value) : Nat := match v with | .string s => s.size | _ => 0
theorem short_one {l : Pq.Bytes} (h : ¬ 1 < l.length) : Pr.short l = l := by
  match l, h with
  | [], _ => rfl
  | [a], _ => rfl
  | a :: b :: r, h => simp at h
theorem short_list : ∀ (l : Pq.Bytes) (h : 1 < l.length), Pr.short l = if l[0] = 48 then Pr.short (l.drop 1) else l
  | [], h => by simp at h
  | [a], h => by simp at h
  | a :: b :: r, _ => by
    by_cases ha : a = 48
    · subst ha; rfl
    · simp [Pr.short, ha]
theorem short_go {u : ByteArray} (h : 1 < u.size) : Pr.short u.data.toList = if u[0] = 48 then Pr.short (u.extract 1 u.size).data.toList else u.data.toList := by
  have hl : u.data.toList.length = u.size := by simp
  rw [short_list _ (by omega), extract_eq]
  have e : List.drop 1 (List.take u.size u.data.toList) = u.data.toList.drop 1 := by rw [List.take_of_length_le (by omega)]
  show _ = if u[0] = 48 then Pr.short (List.drop 1 (List.take u.size u.data.toList)).toArray.toList else u.data.toList
  rw [e]
  rfl
set_option maxHeartbeats 400000 in
theorem short_any (s : ByteArray) (w : World) :
    Calls Tryd.prog 23 #[.string s] w fun e w' => e = .returned (.string ⟨(Pr.short s.data.toList).toArray⟩) ∧ w = w' := by
  go_enter Tryd.func23, Tryd.ntmps23
  go_wp2
  go_loop [0] (fun v => ∃ u : ByteArray, v = .string u ∧ Hid (Pr.short u.data.toList = Pr.short s.data.toList)) (fun v => strSize v)
  case atStart => exact ⟨s, rfl, rfl⟩
  case round =>
    obtain ⟨u, rfl, HU⟩ := hrel
    by_cases h1 : 1 < u.size
    · have h1' : (1 : Int) < (u.size : Int) := by omega
      have H1 := hide h1
      have hlt : (0 : Int) < (u.size : Int) := by omega
      by_cases h2 : u[0] = 48
      · have h3 : ((u[0].toNat : Int) == 48) = true := by rw [h2]; rfl
        go_wp2
        go_round
        case rel =>
          refine ⟨_, rfl, ?_⟩
          have e := short_go H1.out
          rw [if_pos h2] at e
          exact e.symm.trans HU.out
        case measure =>
          have := H1.out
          simp [strSize]; omega
      · have h3 : ((u[0].toNat : Int) == 48) = false := by
          simp only [beq_eq_false_iff_ne]; intro e; exact h2 (UInt8.toNat_inj.1 (by show _ = 48; omega))
        go_wp2
        go_ret
        have e := short_go H1.out
        rw [if_neg h2] at e
        rw [← HU.out, e]
        exact ⟨rfl, rfl⟩
    · have h1' : ¬ (1 : Int) < (u.size : Int) := by omega
      go_wp2
      go_ret
      rw [← HU.out, short_one (by simp; omega)]
      exact ⟨rfl, rfl⟩
theorem atoi_worth {l : Pq.Bytes} (h1 : l ≠ []) (h2 : ∀ c ∈ l, Pq.isDig c = true) : Lib.atoi l = some (Pq.worth l) := by
  have dv : ∀ c : UInt8, Pq.isDig c = true → Lib.digitVal c = some (c.toNat - 48) ∧ 48 ≤ c.toNat ∧ c.toNat ≤ 57 := by
    intro c hc
    simp only [Pq.isDig, Bool.and_eq_true, decide_eq_true_eq] at hc
    have h : 48 ≤ c.toNat ∧ c.toNat ≤ 57 := by omega
    exact ⟨by simp [Lib.digitVal, h], h⟩
  have df : ∀ (l : Pq.Bytes) (a : Nat), (∀ c ∈ l, Pq.isDig c = true) → ∃ m : Nat, Lib.decFrom a l = some m ∧ (m : Int) = l.foldl (fun n c => n * 10 + ((c.toNat : Int) - 48)) (a : Int) := by
    intro l
    induction l with
    | nil => intro a _; exact ⟨a, rfl, rfl⟩
    | cons b r ih =>
      intro a hd
      have hb := dv b (hd b (by simp))
      obtain ⟨m, e1, e2⟩ := ih (a * 10 + (b.toNat - 48)) (fun c hc => hd c (by simp [hc]))
      refine ⟨m, by simp only [Lib.decFrom, hb.1]; exact e1, ?_⟩
      rw [e2, List.foldl_cons]
      congr 1
      omega
  cases l with
  | nil => exact absurd rfl h1
  | cons b r =>
    have hb := dv b (h2 b (by simp))
    obtain ⟨m, e1, e2⟩ := df (b :: r) 0 h2
    have n1 : (b == 45) = false := by
      simp only [beq_eq_false_iff_ne]; intro e; rw [e] at hb; exact absurd hb.2.1 (by decide)
    have n2 : (b == 43) = false := by
      simp only [beq_eq_false_iff_ne]; intro e; rw [e] at hb; exact absurd hb.2.1 (by decide)
    simp only [Lib.atoi, n1, n2, Lib.decNat, List.isEmpty_cons, Bool.false_eq_true, if_false, e1, Option.map_some]
    exact congrArg some e2
set_option maxHeartbeats 400000 in
theorem number_any {w : World} (t : Pq.Tok) (h : Pr.NTok t) :
    Calls Tryd.prog 36 #[.agg #[.string ⟨t.text.toArray⟩, .int .i64 (t.at' : Nat)]] w fun e w' => e = .returned (.int .i64 (Pq.worth t.text)) ∧ Below w.heap.size w w' := by
  have HA := fun W => atoi_laid ⟨t.text.toArray⟩ (Pq.worth t.text) (by have := h.len; show t.text.toArray.size ≤ 18; simp; omega) (by show Lib.atoi t.text.toArray.toList = _; simpa using atoi_worth h.ne h.dig) W
  clear h
  go_enter Tryd.func36, Tryd.ntmps36
  go_wp2_with (go_at_call 55; refine (HA _).mono ?_; rintro e w' ⟨rfl, tt, rfl⟩)
  go_ret
  refine ⟨rfl, ((Below.refl _ _).alloc (Nat.le_refl _) _).trans ((Lib.bytesWorld_below _ _ _).mono (by simp))⟩
def seenT (ts : List Pq.Tok) (k : Nat) : List Pq.Bytes := ((ts.take k).map (·.text)).reverse
theorem seenT_has (ts : List Pq.Tok) (k : Nat) (t : Pq.Bytes) : (seenT ts k).contains t = decide (ts.findIdx (fun x => x.text == t) < k ∧ ts.findIdx (fun x => x.text == t) < ts.length) := by
  rw [Bool.eq_iff_iff, List.contains_iff_mem, decide_eq_true_eq]
  simp only [seenT, List.mem_reverse, List.mem_map]
  constructor
  · rintro ⟨x, hx, rfl⟩
    obtain ⟨j, hj, rfl⟩ := List.getElem_of_mem hx
    rw [List.length_take] at hj
    have hjl : j < ts.length := by omega
    rw [List.getElem_take]
    have : ts.findIdx (fun x => x.text == ts[j].text) ≤ j := by
      rcases Nat.lt_or_ge j (ts.findIdx (fun x => x.text == ts[j].text)) with h | h
      · have := List.not_of_lt_findIdx h; simp at this
      · exact h
    omega
  · rintro ⟨h1, h2⟩
    have hp := List.findIdx_getElem (w := h2)
    refine ⟨ts[ts.findIdx (fun x => x.text == t)], ?_, by simpa using hp⟩
    rw [List.mem_iff_getElem]
    exact ⟨ts.findIdx (fun x => x.text == t), by rw [List.length_take]; omega, by rw [List.getElem_take]⟩
theorem twF_step (ts : List Pq.Tok) (k : Nat) (hk : k < ts.length) : Pr.twF (seenT ts k) (ts.drop k) = if (Pr.isColT ts[k].text && decide (((ts.findIdx (fun x => x.text == ts[k].text) : Nat) : Int) < (k : Int))) = true then (ts[k].at' : Int) else Pr.twF (seenT ts (k + 1)) (ts.drop (k + 1)) := by
  have e : seenT ts (k + 1) = ts[k].text :: seenT ts k := by
    unfold seenT; rw [List.take_succ_eq_append_getElem hk, List.map_append, List.reverse_append]; rfl
  rw [List.drop_eq_getElem_cons hk, Pr.twF, seenT_has, ← e]
  have e2 : decide (ts.findIdx (fun x => x.text == ts[k].text) < k ∧ ts.findIdx (fun x => x.text == ts[k].text) < ts.length) = decide (((ts.findIdx (fun x => x.text == ts[k].text) : Nat) : Int) < (k : Int)) := by
    rw [Bool.eq_iff_iff, decide_eq_true_eq, decide_eq_true_eq]; omega
  rw [e2]
theorem RdT.le {w : World} {v : Value} {ts : List Pq.Tok} (h : RdT w v ts) {B : Nat} {w' : World} (hB : w.heap.size ≤ B) (hb : Below B w w') : RdT w' v ts := h.below (hb.mono hB)
set_option maxRecDepth 100000 in
set_option maxHeartbeats 1000000 in
theorem twice_any {w : World} (ts : List Pq.Tok) (v : Value) (h : RdT w v ts) (hl : ts.length ≤ 1000) :
    Calls Tryd.prog 35 #[v] w fun e w' => e = .returned (.int .i64 (Pr.twF [] ts)) ∧ Below w.heap.size w w' := by
  have HR := hide h
  rcases h with ⟨rfl, rfl⟩ | ⟨g, off, cap, cur, rfl, hlc, hg, hc⟩
  · go_enter Tryd.func35, Tryd.ntmps35
    go_wp2
    go_loop [3] (fun i => i = .int .i64 0) (fun i => 0)
    case atStart => rfl
    case round =>
      subst hrel
      go_wp2
      go_ret
      exact ⟨rfl, Below.refl _ _⟩
  · clear hc
    go_enter Tryd.func35, Tryd.ntmps35
    go_wp2
    go_loopw [3] (fun i wr => ∃ k : Nat, k ≤ ts.length ∧ i = .int .i64 k ∧ Below w.heap.size w wr ∧ Hid (Pr.twF (seenT ts k) (ts.drop k) = Pr.twF [] ts)) (fun i _ => ts.length - (intOf i).toNat)
    case atStart => exact ⟨0, by omega, rfl, Below.refl _ _, rfl⟩
    case round =>
      obtain ⟨k, hk, rfl, hb, HN⟩ := hrel
      have HR1 := hide (HR.out.below hb)
      by_cases hlt : k < ts.length
      · obtain ⟨c0, c1⟩ := HR1.out.cell k hlt
        have HS := hide (twF_step ts k hlt)
        go_wp2_with fail
        refine (in_any ts[k].text [[112], [107], [118]] _ (RdS.at (by rfl) [[112], [107], [118]] _ rfl) (by decide)).mono ?_
        rintro e w2 ⟨rfl, rfl⟩
        have hb2 := hb.alloc hb.size (.cells (strCells [[112], [107], [118]]).toArray 9 (0, 0))
        have HR2 := hide (HR.out.below hb2)
        obtain ⟨d0, d1⟩ := HR2.out.cell k hlt
        have HB2 := hide hb2
        clear hb2
        generalize hw2 : wr.alloc (.cells (strCells [[112], [107], [118]]).toArray 9 (0, 0)) = w2 at *
        go_wp2_with fail
        refine (find_any ts[k].text ts _ HR2.out hl).mono ?_
        rintro e w3 ⟨rfl, rfl⟩
        change Hid (Pr.twF (seenT ts k) (ts.drop k) = if (Pr.inW ts[k].text [[112], [107], [118]] && decide (((ts.findIdx (fun x => x.text == ts[k].text) : Nat) : Int) < (k : Int))) = true then (ts[k].at' : Int) else Pr.twF (seenT ts (k + 1)) (ts.drop (k + 1))) at HS
        have hfi : ts.findIdx (fun x => x.text == ts[k].text) ≤ ts.length := List.findIdx_le_length
        generalize ts.findIdx (fun x => x.text == ts[k].text) = fi at *
        cases hin : Pr.inW ts[k].text [[112], [107], [118]]
        · rw [hin] at HS
          go_wp2
          go_roundw
          case rel => exact ⟨k + 1, by omega, by go_num, HB2.out, HS.out.symm.trans HN.out⟩
          case measure => simp [intOf]; omega
        · rw [hin] at HS
          by_cases hfk : (fi : Int) < (k : Int)
          · have HS2 := HS.out
            rw [if_pos (by simpa using hfk)] at HS2
            have HS3 := hide HS2
            clear HS2
            go_wp2
            go_ret
            exact ⟨by rw [← HN.out, HS3.out]; rfl, HB2.out⟩
          · have HS2 := HS.out
            rw [if_neg (by simpa using hfk)] at HS2
            have HS3 := hide HS2
            clear HS2
            go_wp2
            go_roundw
            case rel => exact ⟨k + 1, by omega, by go_num, HB2.out, HS3.out.symm.trans HN.out⟩
            case measure => simp [intOf]; omega
      · have HE : Hid (Pr.twF [] ts = -1) := by
          show _ = _
          have e := HN.out
          rw [List.drop_eq_nil_of_le (by omega)] at e
          exact e.symm
        go_wp2
        go_ret
        exact ⟨by rw [HE.out]; rfl, hb⟩
end Go.Proofs.YtcoofnhdbejnpaaDoor
