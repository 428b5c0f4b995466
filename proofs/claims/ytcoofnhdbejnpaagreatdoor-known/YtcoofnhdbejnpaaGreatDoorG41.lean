/- Package lines: all lines in memory; placeOfPart. -/
import Derived.Test.YtcoofnhdbejnpaaGreatDoorG31
namespace Go.Proofs.YtcoofnhdbejnpaaGreatDoor
open Go.RowKit
def lineCells (vk : Value) (vs : List Value) : List Value := vs.flatMap (fun v => [vk, v])
theorem lineCells_len (vk : Value) (vs : List Value) : (lineCells vk vs).length = vs.length * 2 := by
  induction vs with
  | nil => rfl
  | cons v vs ih => simp only [lineCells, List.flatMap_cons, List.length_append] at ih ⊢; rw [ih]; simp; omega
theorem lineCells_snoc (vk : Value) (vs : List Value) (v : Value) : lineCells vk (vs ++ [v]) = lineCells vk vs ++ [vk, v] := by simp [lineCells]
theorem lineCells_get (vk : Value) : ∀ (vs : List Value) (n : Nat) (h : n < vs.length), (lineCells vk vs)[n * 2]? = some vk ∧ (lineCells vk vs)[n * 2 + 1]? = some vs[n]
  | [], n, h => by simp at h
  | c :: l, 0, _ => by simp [lineCells]
  | c :: l, n + 1, h => by
    have ih := lineCells_get vk l n (by simpa using h)
    have e : lineCells vk (c :: l) = [vk, c] ++ lineCells vk l := by simp [lineCells]
    have hl : [vk, c].length = 2 := rfl
    rw [e]
    refine ⟨?_, ?_⟩
    · rw [List.getElem?_append_right (by omega), hl, show (n + 1) * 2 - 2 = n * 2 by omega]; exact ih.1
    · rw [List.getElem?_append_right (by omega), hl, show (n + 1) * 2 + 1 - 2 = n * 2 + 1 by omega]; exact ih.2
theorem lineCells_set (vk : Value) : ∀ (vs : List Value) (j : Nat) (c : Value), j < vs.length → lineCells vk (vs.set j c) = (lineCells vk vs).set (j * 2 + 1) c
  | [], j, _, h => by simp at h
  | d :: l, 0, c, _ => by simp [lineCells]
  | d :: l, j + 1, c, h => by
    have ih := lineCells_set vk l j c (by simpa using h)
    have e : ∀ m : List Value, ∀ d, lineCells vk (d :: m) = [vk, d] ++ lineCells vk m := fun m d => by simp [lineCells]
    have hl : [vk, d].length = 2 := rfl
    rw [List.set_cons_succ, e, e, ih, List.set_append_right _ _ (by omega), hl, show (j + 1) * 2 + 1 - 2 = j * 2 + 1 by omega]
/-- all lines in memory: their row, and the copies of each in a block of its own -/
structure LAll (w : World) (B : Nat) (va vk : Value) (vs : List Value) (all : List (List Pv.R3)) : Prop where
  row : w.ownsRow B 176 2 va all.length (lineCells vk vs)
  len : vs.length = all.length
  own : ∀ j (h1 : j < vs.length) (h2 : j < all.length), w.ownsRow B 48 3 vs[j] all[j].length (rrows all[j])
  dis : ∀ i j (hi : i < vs.length) (hj : j < vs.length), i ≠ j → ∀ g, vs[i].ownBlock = some g → vs[j].ownBlock ≠ some g
theorem LAll.below {w w' : World} {B : Nat} {va vk : Value} {vs : List Value} {all : List (List Pv.R3)} (h : LAll w B va vk vs all) (hb : Below w.heap.size w w') : LAll w' B va vk vs all :=
  ⟨own_below h.row hb, h.len, fun j h1 h2 => own_below (h.own j h1 h2) hb, h.dis⟩
theorem LAll.nil (w : World) (B : Nat) (vk : Value) : LAll w B (.slice none 0 0) vk [] [] :=
  ⟨World.ownsRow_nil _ _ _ _, rfl, fun j h => by simp at h, fun i j h => by simp at h⟩
theorem LAll.at {w : World} {B g n cap : Nat} {vk : Value} {vs : List Value} {all : List (List Pv.R3)} {ks : List (Nat × Bool)} (h : LAll w B (.slice (some ⟨g, 0, none⟩) n cap) vk vs all) (hk : RdK w vk ks) (j : Nat) (hj : j < all.length) : LnAt w g (j * 2) vk (vs[j]'(by rw [h.len]; exact hj)) ks all[j] := by
  have hjv : j < vs.length := by rw [h.len]; exact hj
  obtain ⟨e0, e1⟩ := lineCells_get vk vs j hjv
  have hrd := RdG.ofOwn h.row
  have c0 := RdG.cell hrd _ _ e0
  have c1 := RdG.cell hrd _ _ e1
  rw [Nat.zero_add] at c0 c1
  exact ⟨c0, c1, hk, RdR.ofOwn (h.own j hjv hj)⟩
/-- a line has turned: the others are as they were -/
theorem LAll.put {w w' : World} {B g n cap : Nat} {vk v' : Value} {vs : List Value} {all : List (List Pv.R3)} {L' : List Pv.R3} (h : LAll w B (.slice (some ⟨g, 0, none⟩) n cap) vk vs all) (j : Nat) (hj : j < all.length) {cur : Array Value} (hcur : w.heap[g]? = some (.cells cur 176 (0, 0)))
    (hbut : But (fun k => k = g ∨ (vs[j]'(by rw [h.len]; exact hj)).ownBlock = some k) w w') (hb' : w'.heap[g]? = some (.cells (cur.setIfInBounds (j * 2 + 1) v') 176 (0, 0))) (ho' : w'.ownsRow B 48 3 v' L'.length (rrows L')) (hn : ∀ k, v'.ownBlock = some k → (vs[j]'(by rw [h.len]; exact hj)).ownBlock = some k ∨ w.heap.size ≤ k) :
    LAll w' B (.slice (some ⟨g, 0, none⟩) n cap) vk (vs.set j v') (all.set j L') := by
  have hjv : j < vs.length := by rw [h.len]; exact hj
  have hgT : ∀ i (hi : i < vs.length), vs[i].ownBlock ≠ some g := fun i hi e => by
    obtain ⟨c2, fz, h2⟩ := own_type (h.own i hi (by rw [← h.len]; exact hi)) e
    rw [hcur] at h2; cases h2
  refine ⟨?_, by simp [h.len], fun i h1 h2 => ?_, fun i i2 hi hi2 hne k hk => ?_⟩
  · have hl := h.row.1
    refine ⟨by rw [lineCells_len, List.length_set, List.length_set, h.len], ?_⟩
    rcases h.row.2 with ⟨h1, _⟩ | ⟨g', cap', cur', h1, h2, h3, h4, h5, h6, h7⟩
    · cases h1
    · cases h1
      rw [hcur] at h3
      cases h3
      refine .inr ⟨g, cap, cur.setIfInBounds (j * 2 + 1) v', by rw [List.length_set], h2, hb', by rw [List.length_set]; exact h4, h5, by simpa using h6, ?_⟩
      rw [List.length_set, lineCells_set vk vs j v' hjv, ← h7]
      simp only [Array.toList_setIfInBounds]
      rw [List.take_set]
  · rw [List.length_set] at h1 h2
    by_cases e : i = j
    · subst e
      simp only [List.getElem_set_self]
      exact ho'
    · rw [List.getElem_set_ne (fun q => e q.symm), List.getElem_set_ne (fun q => e q.symm)]
      refine own_but (h.own i h1 h2) hbut (fun k hk => ?_)
      rintro (q | q)
      · subst q; exact hgT i h1 hk
      · exact h.dis i j h1 hjv e k hk q
  · have hiv : i < vs.length := by rw [List.length_set] at hi; exact hi
    have hi2v : i2 < vs.length := by rw [List.length_set] at hi2; exact hi2
    by_cases e : i = j
    · subst e
      rw [List.getElem_set_self] at hk
      rw [List.getElem_set_ne (fun q => hne q)]
      intro q
      rcases hn k hk with q2 | q2
      · exact h.dis i i2 hjv hi2v hne k q2 q
      · have := ((h.own i2 hi2v (by rw [← h.len]; exact hi2v)).lt k q).2; omega
    · rw [List.getElem_set_ne (fun q => e q.symm)] at hk
      by_cases e2 : i2 = j
      · subst e2
        rw [List.getElem_set_self]
        intro q
        rcases hn k q with q2 | q2
        · exact h.dis i i2 hiv hjv e k hk q2
        · have := ((h.own i hiv (by rw [← h.len]; exact hiv)).lt k hk).2; omega
      · rw [List.getElem_set_ne (fun q => e2 q.symm)]
        exact h.dis i i2 hiv hi2v hne k hk
/-- an empty line more -/
theorem LAll.push {w W w6 : World} {B : Nat} {va va' vk : Value} {vs : List Value} {all : List (List Pv.R3)} (h : LAll w B va vk vs all) (hW : Below w.heap.size w W) (hg : W.grownBy w6 va.ownBlock) (ho : w6.ownsRow B 176 2 va' (all.length + 1) (lineCells vk vs ++ [vk, .slice none 0 0])) : LAll w6 B va' vk (vs ++ [.slice none 0 0]) (all ++ [[]]) := by
  have h1 := h.below hW
  refine ⟨by rw [lineCells_snoc, List.length_append]; exact ho, by simp [h.len], fun j hj1 hj2 => ?_, fun i j hi hj hne k hk => ?_⟩
  · by_cases hj : j < vs.length
    · have hja : j < all.length := by rw [← h.len]; exact hj
      rw [List.getElem_append_left hj, List.getElem_append_left hja]
      refine (h1.own j hj hja).kept hg ?_
      cases hs : vs[j].ownBlock with
      | none => exact .inl rfl
      | some k =>
        right
        intro e
        obtain ⟨c1, f1, e1⟩ := own_type (h1.own j hj hja) hs
        obtain ⟨c2, f2, e2⟩ := own_type h1.row e.symm
        rw [e1] at e2; cases e2
    · rw [List.length_append] at hj1
      have hjv : j = vs.length := by simp at hj1; omega
      have ev : (vs ++ [Value.slice none 0 0])[j] = .slice none 0 0 := by subst hjv; simp
      have ea : (all ++ [[]])[j] = [] := by
        have hja : j = all.length := by rw [← h.len]; exact hjv
        subst hja; simp
      rw [ev, ea]
      exact World.ownsRow_nil _ _ _ _
  · by_cases hi1 : i < vs.length
    · rw [List.getElem_append_left hi1] at hk
      by_cases hj1 : j < vs.length
      · rw [List.getElem_append_left hj1]
        exact h.dis i j hi1 hj1 hne k hk
      · rw [List.length_append] at hj
        have hjv : j = vs.length := by simp at hj; omega
        have ev : (vs ++ [Value.slice none 0 0])[j] = .slice none 0 0 := by subst hjv; simp
        rw [ev]; simp [Value.ownBlock]
    · rw [List.length_append] at hi
      have hjv : i = vs.length := by simp at hi; omega
      have ev : (vs ++ [Value.slice none 0 0])[i] = .slice none 0 0 := by subst hjv; simp
      rw [ev] at hk; simp [Value.ownBlock] at hk
set_option maxRecDepth 100000 in
set_option maxHeartbeats 2000000 in
theorem lplace_any {w : World} {B : Nat} {va vk vb : Value} {vs : List Value} {all : List (List Pv.R3)} {cs : List Nat} {ks : List (Nat × Bool)} (h : LAll w B va vk vs all) (hk : RdK w vk ks) (hb : RdB w vb cs) (hl : cs.length ≤ 1000) (hc : ∀ c ∈ cs, c < 3) (hal : all.length ≤ 100000) (p' u' v' : Int) :
    Calls Tryz.prog 134 #[va, vb, .agg #[.int .i64 p', .int .i64 u', .int .i64 v']] w fun e w' => e = .returned (.int .i64 (Pv.partAt cs (p', u', v') all : Nat)) ∧ Below w.heap.size w w' := by
  have HH := hide h
  have HK := hide hk
  have HB := hide hb
  have HC := hide hc
  obtain ⟨xa, ca, rfl⟩ : ∃ x c, va = .slice x all.length c := by
    rcases own_form h.row with ⟨h, h2⟩ | ⟨g, c, h⟩
    · exact ⟨none, 0, by rw [h, h2]⟩
    · exact ⟨_, c, h⟩
  obtain ⟨xb, cb, rfl⟩ := RdG.sl hb
  clear h hk hb hc
  go_enter Tryz.func134, Tryz.ntmps134
  go_upto_region 1 with fail
  have C0 := hide (K1.start w #[.int .i64 p', .int .i64 u', .int .i64 v'] 48)
  generalize w.alloc (.cells #[.int .i64 p', .int .i64 u', .int .i64 v'] 48) = w0 at *
  go_wp2
  go_loopw [7] (fun i wr => ∃ k : Nat, k ≤ all.length ∧ i = .int .i64 k ∧ Below w0.heap.size w0 wr ∧ Hid (∀ j (hj : j < all.length), j < k → Pv.isPart cs all[j] (p', u', v') = false)) (fun i _ => all.length - (intOf i).toNat)
  case atStart => exact ⟨0, by omega, rfl, Below.refl _ _, fun j hj h => by omega⟩
  case round =>
    obtain ⟨k, hk, rfl, hb, HN⟩ := hrel
    have B1 := hide hb
    clear hb
    have C1 := hide (C0.out.below B1.out)
    have r0 : wr.cell? ⟨w.heap.size, 0, none⟩ = some (.int .i64 p') := cell_of_heap C1.out.a 0
    have r1 : wr.cell? ⟨w.heap.size, 1, none⟩ = some (.int .i64 u') := cell_of_heap C1.out.a 1
    have r2 : wr.cell? ⟨w.heap.size, 2, none⟩ = some (.int .i64 v') := cell_of_heap C1.out.a 2
    by_cases hlt : k < all.length
    · have hlt' : (k : Int) < (all.length : Int) := by omega
      obtain ⟨g, cap, e⟩ : ∃ g cap, (Value.slice xa all.length ca) = .slice (some ⟨g, 0, none⟩) all.length cap := by
        rcases own_form HH.out.row with ⟨_, h2⟩ | h
        · omega
        · exact h
      cases e
      have HL := hide ((HH.out.below (below_d C1.out.bl)).at (HK.out.below (below_d C1.out.bl)) k hlt)
      go_upto_region 2 with fail
      go_still_tail 10, (by kernel_rfl)
      go_wp2_with fail
      refine (lpart_any HL.out.c1 HL.out.rc (HB.out.below (below_d C1.out.bl)) hl HC.out _ _ _).mono ?_
      rintro e w3 ⟨rfl, e3⟩
      replace e3 := undrew e3
      have B3 := hide (B1.out.trans (e3.mono B1.out.size))
      have BW := hide (C0.out.below B3.out).bl
      clear r0 r1 r2 e3 HL
      cases hlw : Pv.isPart cs all[k] (p', u', v')
      · have HLW : Hid (Pv.isPart cs all[k] (p', u', v') = false) := hlw
        go_wp2
        go_roundw
        case rel =>
          refine ⟨k + 1, by omega, by go_num, B3.out, fun j hj h => ?_⟩
          rcases Nat.lt_or_ge j k with h1 | h1
          · exact HN.out j hj h1
          · obtain rfl : j = k := by omega
            exact HLW.out
        case measure => simp [intOf]; omega
      · have HP := hide (Pv.partAt_is cs (p', u', v') all k (by omega) (fun j hj h => HN.out j hj h) (fun h => hlw))
        go_wp2
        go_ret
        exact ⟨by rw [HP.out]; rfl, BW.out⟩
    · have hlt' : ¬ (k : Int) < (all.length : Int) := by omega
      have HP := hide (Pv.partAt_is cs (p', u', v') all k hk (fun j hj h => HN.out j hj h) (fun h => by omega))
      go_wp2
      go_quiet (fail)
      go_wp2
      go_ret
      exact ⟨by rw [HP.out]; rfl, below_drewM C1.out.bl _⟩
end Go.Proofs.YtcoofnhdbejnpaaGreatDoor

