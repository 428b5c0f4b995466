/- Package panesref: Read. -/
import Derived.Test.YtcoofnhdbejnpaaDoorWe
import Derived.Test.YtcoofnhdbejnpaaDoorVc
import Derived.Laws.AppendOwnNone
import Derived.Test.YtcoofnhdbejnpaaDoorQp
import Derived.Deep.LoopGhost
namespace Go.Proofs.YtcoofnhdbejnpaaDoor
open Go.RowKit
theorem infoStr : (Tryd.prog.info? 9).map (fun i => (i.zero, i.size, i.bytes)) = some (some (.string ⟨#[]⟩), 1, 16) := by kernel_rfl
theorem RdS.below {w w' : World} {v : Value} {ws : List Pq.Bytes} (h : RdS w v ws) (hb : Below w.heap.size w w') : RdS w' v ws := by
  rcases h with h | ⟨g, off, cap, cur, h1, h2, h3, h4⟩
  · exact .inl h
  · refine .inr ⟨g, off, cap, cur, h1, h2, ?_, h4⟩
    rw [hb.block g (by rcases Nat.lt_or_ge g w.heap.size with h | h; exact h; rw [Array.getElem?_eq_none h] at h3; cases h3)]
    exact h3
theorem RdS.ofOwn {w : World} {B n : Nat} {v : Value} {ws : List Pq.Bytes} (h : w.ownsRow B 9 1 v n (strCells ws)) : RdS w v ws := by
  have hl := h.1
  have hl2 : (strCells ws).length = ws.length := by simp [strCells]
  have hn : ws.length = n := by omega
  subst hn
  rcases h.2 with ⟨h1, h2⟩ | ⟨g, cap, cur, h1, h2, h3, h4, h5, h6, h7⟩
  · exact .inl ⟨h1, List.eq_nil_of_length_eq_zero h2⟩
  · refine .inr ⟨g, 0, cap, cur, h1, h4, h3, fun j u hu => ?_⟩
    rw [← h7] at hu
    rw [List.getElem?_take] at hu
    split at hu
    · simpa using hu
    · cases hu
theorem RdS.news {w : World} {g off n cap : Nat} {ws : List Pq.Bytes} (h : RdS w (.slice (some ⟨g, off, none⟩) n cap) ws) : ∀ j u, (strCells ws)[j]? = some u → w.cell? ((⟨g, off, none⟩ : Addr).add j) = some u := by
  rcases h with ⟨h, _⟩ | ⟨g', off', cap', cur, h, _, hg, hc⟩
  · cases h
  · cases h
    intro j u hu
    have e : (⟨g, off, none⟩ : Addr).add j = ⟨g, off + j, none⟩ := by unfold Addr.add; split <;> simp_all
    rw [e]
    simp only [World.cell?, hg]
    exact hc j u hu
theorem RdS.tail {w : World} {g off n cap : Nat} {s : Pq.Bytes} {ws : List Pq.Bytes} (h : RdS w (.slice (some ⟨g, off, none⟩) n cap) (s :: ws)) : RdS w (.slice (some ⟨g, off + 1, none⟩) (n - 1) (cap - 1)) ws := by
  rcases h with ⟨h, _⟩ | ⟨g', off', cap', cur, h, hl, hg, hc⟩
  · cases h
  · cases h
    refine .inr ⟨g, off + 1, cap - 1, cur, by simp, by simp at hl; omega, hg, fun j u hu => ?_⟩
    have := hc (j + 1) u (by simpa [strCells] using hu)
    rw [← this]; congr 1; omega
theorem RdS.tail0 {w : World} {g off n cap : Nat} {s : Pq.Bytes} {ws : List Pq.Bytes} (h : RdS w (.slice (some ⟨g, off, none⟩) n cap) (s :: ws)) : RdS w (.slice (some ⟨g, off, none⟩) 0 0) [] := by
  rcases h with ⟨h, _⟩ | ⟨g', off', cap', cur, h, hl, hg, hc⟩
  · cases h
  · cases h
    exact .inr ⟨g, off, 0, cur, rfl, Nat.le_refl _, hg, fun j u hu => by simp [strCells] at hu⟩
theorem own_below {w w' : World} {B e size n : Nat} {v : Value} {xs : List Value} (h : w.ownsRow B e size v n xs) (hb : Below w.heap.size w w') : w'.ownsRow B e size v n xs := by
  refine ⟨h.1, ?_⟩
  rcases h.2 with h1 | ⟨g, cap, cur, h1, h2, h3, h4⟩
  · exact .inl h1
  · refine .inr ⟨g, cap, cur, h1, h2, ?_, h4⟩
    rw [hb.block g (by rcases Nat.lt_or_ge g w.heap.size with h | h; exact h; rw [Array.getElem?_eq_none h] at h3; cases h3)]
    exact h3
theorem strCells_len (ws : List Pq.Bytes) : (strCells ws).length = ws.length * 1 := by simp [strCells]
theorem strCells_one (ws : List Pq.Bytes) : ∀ u ∈ strCells ws, u.oneCell' = true := by
  intro u hu; simp only [strCells, List.mem_map] at hu; obtain ⟨t, _, rfl⟩ := hu; rfl
theorem strCells_app (a b : List Pq.Bytes) : strCells (a ++ b) = strCells a ++ strCells b := by simp [strCells]
theorem Pq.lexFrom_place (l : Pq.Bytes) (n : Nat) : (Pq.lexFrom l n).2 = -1 ∨ 0 ≤ (Pq.lexFrom l n).2 := by
  induction n using Pq.lexFrom_ind (l := l) with
  | case1 n h hb ih => rw [Pq.lexFrom_blk h hb]; exact ih
  | case2 n h hb he => rw [Pq.lexFrom_bad h (by simpa using hb) he]; exact .inr (by simp)
  | case3 n h hb he ih => rw [Pq.lexFrom_tok h (by simpa using hb) (by omega)]; exact ih
  | case4 n h => rw [Pq.lexFrom_end h]; exact .inl rfl
/-- what Read answers -/
def RReadPost (l : Pq.Bytes) (B : Nat) (e : Ending) (w' : World) : Prop :=
  if 300 < l.length then e = .returned (.tuple #[.slice none 0 0, .int .i64 1, .int .i64 0])
  else if (Pq.lexFrom l 0).2 = -1 then
    (if Pr.bad (Pq.toksOf l) then e = .returned (.tuple #[.slice none 0 0, .int .i64 3, .int .i64 (Pr.pAt (Pq.toksOf l) l.length (Pr.run (Pq.toksOf l) Pr.start 0).2 : Nat)])
     else ∃ v, e = .returned (.tuple #[v, .int .i64 0, .int .i64 0]) ∧ w'.ownsRow B 74 2 v (Pq.toksOf l).length (rtoks (Pq.toksOf l)))
  else e = .returned (.tuple #[.slice none 0 0, .int .i64 2, .int .i64 (Pq.lexFrom l 0).2])
set_option maxRecDepth 100000 in
set_option maxHeartbeats 2000000 in
theorem rread_any (s : ByteArray) (w : World) (hs : s.size ≤ maxLen) :
    Calls Tryd.prog 33 #[.string s] w fun e w' => Below w.heap.size w w' ∧ RReadPost s.data.toList w.heap.size e w' := by
  obtain ⟨i0, hi, hz0, hz1, hz2⟩ := info_parts infoStr
  unfold maxLen at hs
  by_cases h300 : 300 < s.size
  · go_enter Tryd.func33, Tryd.ntmps33
    go_wp2
    go_ret3
    refine ⟨Below.refl _ _, ?_⟩
    unfold RReadPost; rw [if_pos (by simpa using h300)]; rfl
  · have HP : Hid (¬ 300 < s.data.toList.length) := by show ¬ _; simpa using h300
    have hlex := Pq.lexFrom_len s.data.toList 0
    go_enter Tryd.func33, Tryd.ntmps33
    go_wp2_with fail
    refine (tokens_any s _ (by omega)).mono ?_
    rintro e w1 ⟨b1, h1⟩
    unfold TokPost at h1
    by_cases hl : (Pq.lexFrom s.data.toList 0).2 = -1
    · rw [if_pos hl] at h1
      obtain ⟨v0, rfl, own0⟩ := h1
      have HLX := hide hl
      clear hl
      have htl : (Pq.toksOf s.data.toList).length ≤ 300 := by have : (Pq.toksOf s.data.toList).length ≤ s.data.toList.length - 0 := hlex; simp at this; omega
      clear hlex
      have OWN : Hid (w1.ownsRow w.heap.size 74 2 v0 (Pq.toksOf s.data.toList).length (rtoks (Pq.toksOf s.data.toList))) := own0
      clear own0
      have HLEN : Hid (s.data.toList.length = s.size) := by show _ = _; simp
      generalize htk : Pq.toksOf s.data.toList = toks at *
      have HTK := hide htk
      clear htk
      obtain ⟨av, cv, rfl⟩ := own_slice OWN.out
      go_wp2_with fail
      go_loopg [7, 8] (toks.length * 100000 + Pr.sec Pr.start) (fun g v i wr => ∃ (ws : List Pq.Bytes) (k : Nat), RdS wr v ws ∧ i = .int .i64 k ∧ k ≤ toks.length ∧ ws.length + Pr.grow ws ≤ 15 + 6 * k ∧ g = (toks.length - k) * 100000 + Pr.sec ws ∧ wr.ownsRow w.heap.size 74 2 (.slice av toks.length cv) toks.length (rtoks toks) ∧ Below w.heap.size w wr ∧ Hid (Pr.run toks Pr.start 0 = Pr.run toks ws k))
      case atStart => exact ⟨Pr.start, 0, RdS.new _ Pr.start, rfl, Nat.zero_le _, by decide, rfl, OWN.out.alloc _, b1.alloc b1.size _, rfl⟩
      case round =>
        obtain ⟨ws, k, hrd, rfl, hk, hgr, rfl, own1, bel1, HR⟩ := hrel
        clear OWN b1
        cases ws with
        | nil =>
          have hvn : ∃ a c, u7 = .slice a 0 c := by
            rcases hrd with ⟨h, _⟩ | ⟨g, off, cap, cur, h, _⟩
            · exact ⟨_, _, h⟩
            · exact ⟨_, _, h⟩
          obtain ⟨a7, c7, rfl⟩ := hvn
          have HR2 : Hid (Pr.run toks Pr.start 0 = (false, k)) := by show _ = _; rw [HR.out, Pr.run_nil]
          clear HR
          by_cases hkl : k < toks.length
          · have HBD : Hid (Pr.bad toks = true ∧ Pr.pAt toks s.data.toList.length (Pr.run toks Pr.start 0).2 = toks[k].at') := by
              show _ ∧ _; unfold Pr.bad; rw [HR2.out]; simp [hkl, Pr.pAt]
            obtain ⟨g5, c5, hv5, _, _⟩ := own1.form (by omega)
            cases hv5
            have hc := (RdT.ofOwn own1).cell k hkl
            simp only [Nat.zero_add] at hc
            obtain ⟨d0, d1⟩ := hc
            go_wp2
            go_quiet (fail)
            go_wp2
            go_ret3
            refine ⟨below_drewN bel1 _, ?_⟩
            unfold RReadPost; rw [if_neg HP.out, if_pos HLX.out, HTK.out, if_pos HBD.out.1, HBD.out.2]; rfl
          · have HBD : Hid (Pr.bad toks = false) := by
              show _ = _; unfold Pr.bad; rw [HR2.out]; simp; omega
            go_wp2
            go_ret3
            refine ⟨bel1, ?_⟩
            unfold RReadPost; rw [if_neg HP.out, if_pos HLX.out, HTK.out, if_neg (by simp [HBD.out])]
            exact ⟨_, rfl, own1⟩
        | cons sym r =>
          obtain ⟨g7, o7, c7, hv, hlc⟩ : ∃ g off cap, u7 = .slice (some ⟨g, off, none⟩) (r.length + 1) cap ∧ r.length + 1 ≤ cap := by
            rcases hrd with ⟨_, h⟩ | ⟨g, off, cap, cur, h, h2, _⟩
            · cases h
            · exact ⟨g, off, cap, h, by simpa using h2⟩
          subst hv
          have RD := hide hrd
          clear hrd
          have c0 := RD.out.cell 0 (by simp)
          simp only [Nat.add_zero, List.getElem_cons_zero] at c0
          go_upto_if 34 with fail
          go_cut [9, 10] from 26 to 73 (fun t p wx => t = .string ⟨(Pr.tAt toks k).toArray⟩ ∧ p = .int .i64 (Pr.pAt toks s.size k : Nat) ∧ wx = wr)
          case first =>
            by_cases hkl : k < toks.length
            · have HT1 : Hid (Pr.tAt toks k = toks[k].text) := by show _ = _; simp [Pr.tAt, hkl]
              have HT2 : Hid (Pr.pAt toks s.size k = toks[k].at') := by show _ = _; simp [Pr.pAt, hkl]
              obtain ⟨g5, c5, hv5, _, _⟩ := own1.form (by omega)
              cases hv5
              have hc := (RdT.ofOwn own1).cell k hkl
              simp only [Nat.zero_add] at hc
              obtain ⟨d0, d1⟩ := hc
              go_wp2
              go_meet
              case rel => exact ⟨by rw [HT1.out], by rw [HT2.out], rfl⟩
            · have HT1 : Hid (Pr.tAt toks k = []) := by show _ = _; simp [Pr.tAt, show toks.length ≤ k by omega]
              have HT2 : Hid (Pr.pAt toks s.size k = s.size) := by show _ = _; simp [Pr.pAt, show toks.length ≤ k by omega]
              go_wp2
              go_meet
              case rel => exact ⟨by rw [HT1.out], by rw [HT2.out], rfl⟩
          case rest =>
            obtain ⟨rfl, rfl, rfl⟩ := hcut
            go_wp2_with fail
            refine (becomes_any sym (Pr.tAt toks k) _).mono ?_
            rintro e w2 ⟨b2, vm, rfl, hrm⟩
            have RD2 := hide (RD.out.below b2)
            have own2 := hide (own_below own1 b2)
            have B2 : Below w.heap.size w w2 := bel1.trans (b2.mono bel1.size)
            clear own1
            cases hB : Pr.becomesF sym (Pr.tAt toks k) with
            | none =>
              have c2 := RD2.out.cell 0 (by simp)
              simp only [Nat.add_zero, List.getElem_cons_zero] at c2
              cases hF : Pr.fitsF sym (Pr.tAt toks k)
              · have HR2 : Hid (Pr.run toks Pr.start 0 = (true, k)) := by show _ = _; rw [HR.out, Pr.run_bad hB hF]
                have HBD : Hid (Pr.bad toks = true ∧ Pr.pAt toks s.data.toList.length (Pr.run toks Pr.start 0).2 = Pr.pAt toks s.size k) := by
                  show _ ∧ _; unfold Pr.bad; rw [HR2.out, HLEN.out]; simp
                go_wp2_with (go_at_call 53; refine (fits_any sym (Pr.tAt toks k) _).mono ?_; rintro e w3 ⟨rfl, b3⟩)
                go_ret3
                refine ⟨B2.trans (b3.mono (by have := B2.size; omega)), ?_⟩
                unfold RReadPost; rw [if_neg HP.out, if_pos HLX.out, HTK.out, if_pos HBD.out.1, HBD.out.2]; rfl
              · have HR2 : Hid (Pr.run toks Pr.start 0 = Pr.run toks r (k + 1)) := by show _ = _; rw [HR.out, Pr.run_fit hB hF]
                have hkl := Pr.fits_lt hF
                have hg6 := Pr.grow_six r
                have hsl := Pr.sec_le r
                by_cases hc1 : c7 = 1
                · subst hc1
                  obtain rfl : r = [] := List.eq_nil_of_length_eq_zero (by omega)
                  go_wp2_with (go_at_call 53; refine (fits_any sym (Pr.tAt toks k) _).mono ?_; rintro e w3 ⟨rfl, b3⟩)
                  go_roundg ((toks.length - (k + 1)) * 100000 + Pr.sec ([] : List Pq.Bytes))
                  case measure => simp only [List.length_cons] at hgr; omega
                  case rel =>
                    refine ⟨([] : List Pq.Bytes), k + 1, (RD2.out.below b3).tail0, by go_num, hkl, ?_, rfl, ?_, B2.trans (b3.mono (by have := B2.size; omega)), HR2⟩
                    · simp only [List.length_cons] at hgr; omega
                    · exact own_below (own2.out) b3
                · have hc2 : 2 ≤ c7 := by omega
                  go_wp2_with (go_at_call 53; refine (fits_any sym (Pr.tAt toks k) _).mono ?_; rintro e w3 ⟨rfl, b3⟩)
                  go_roundg ((toks.length - (k + 1)) * 100000 + Pr.sec r)
                  case measure => simp only [List.length_cons] at hgr; omega
                  case rel =>
                    refine ⟨r, k + 1, (RD2.out.below b3).tail, by go_num, hkl, ?_, rfl, ?_, B2.trans (b3.mono (by have := B2.size; omega)), HR2⟩
                    · simp only [List.length_cons] at hgr; omega
                    · exact own_below (own2.out) b3
            | some m =>
              rw [hB] at hrm
              simp only [Option.getD_some] at hrm
              have HR2 : Hid (Pr.run toks Pr.start 0 = Pr.run toks (m ++ r) k) := by show _ = _; rw [HR.out, Pr.run_some hB]
              have hgl := Pr.grow_le (r := r) hB
              have hsl := Pr.sec_lt (r := r) hB
              have hbm : (m ++ r).length ≤ 2000 := by omega
              rw [List.length_append] at hbm
              have HGL := hide hgl
              have HSL := hide hsl
              have HRM := hide hrm
              clear hgl hsl hrm HR
              have hvm : (vm = .slice none 0 0 ∧ m = []) ∨ ∃ gm om cm, vm = .slice (some ⟨gm, om, none⟩) m.length cm := by
                rcases HRM.out with h | ⟨g, off, cap, cur, h, _⟩
                · exact .inl h
                · exact .inr ⟨_, _, _, h⟩
              rcases hvm with ⟨rfl, rfl⟩ | ⟨gm, om, cm, rfl⟩
              · by_cases hc1 : c7 = 1
                · subst hc1
                  obtain rfl : r = [] := List.eq_nil_of_length_eq_zero (by omega)
                  go_wp2_with (first | (at_builtin; refine wpList_append_own_none rfl (.tmp 54) (.tmp 55) 76 rfl w2.heap.size 9 i0 1 Tryd.underlying76 hi _ 0 [] rfl (World.ownsRow_nil _ _ _ _) rfl ?_) | (at_builtin; refine wpList_append_own_at _ rfl (.tmp 57) (.tmp 59) 76 rfl w2.heap.size 9 i0 _ 1 16 Tryd.underlying76 hi hz0 hz1 hz2 rfl (by decide) _ 0 [] rfl (World.ownsRow_nil _ _ _ _) ⟨g7, o7, none⟩ 0 0 (strCells []) rfl (strCells_len _) (RD2.out.tail0).news (strCells_one _) (by unfold maxLen; omega) (by omega) (Nat.le_refl _) ?_; intro v4 w4 hown4 hgrow4 hnil4 hat4; have b4 : Below w2.heap.size w2 w4 := (Below.refl _ _).grown hgrow4 (Nat.le_refl _) (fun k hk => by cases hk); have O4 := hide hown4; clear hown4 hgrow4 hnil4 hat4))
                  go_wp2
                  go_roundg ((toks.length - k) * 100000 + Pr.sec (([] : List Pq.Bytes) ++ ([] : List Pq.Bytes)))
                  case measure => have := HSL.out; omega
                  case rel =>
                    refine ⟨([] : List Pq.Bytes) ++ ([] : List Pq.Bytes), k, RdS.ofOwn (B := w2.heap.size) (n := 0 + 0) ?_, rfl, hk, ?_, rfl, own_below own2.out b4, B2.trans (b4.mono B2.size), HR2⟩
                    · have := O4.out; simpa using this
                    · have := HGL.out; omega
                · have hc2 : 2 ≤ c7 := by omega
                  go_wp2_with (first | (at_builtin; refine wpList_append_own_none rfl (.tmp 54) (.tmp 55) 76 rfl w2.heap.size 9 i0 1 Tryd.underlying76 hi _ 0 [] rfl (World.ownsRow_nil _ _ _ _) rfl ?_) | (at_builtin; refine wpList_append_own_at _ rfl (.tmp 57) (.tmp 59) 76 rfl w2.heap.size 9 i0 _ 1 16 Tryd.underlying76 hi hz0 hz1 hz2 rfl (by decide) _ 0 [] rfl (World.ownsRow_nil _ _ _ _) ⟨g7, o7 + 1, none⟩ r.length (c7 - 1) (strCells r) rfl (strCells_len _) (RD2.out.tail).news (strCells_one _) (by unfold maxLen; omega) (by omega) (Nat.le_refl _) ?_; intro v4 w4 hown4 hgrow4 hnil4 hat4; have b4 : Below w2.heap.size w2 w4 := (Below.refl _ _).grown hgrow4 (Nat.le_refl _) (fun k hk => by cases hk); have O4 := hide hown4; clear hown4 hgrow4 hnil4 hat4))
                  go_wp2
                  go_roundg ((toks.length - k) * 100000 + Pr.sec (([] : List Pq.Bytes) ++ r))
                  case measure => have := HSL.out; omega
                  case rel =>
                    refine ⟨([] : List Pq.Bytes) ++ r, k, RdS.ofOwn (B := w2.heap.size) (n := 0 + r.length) ?_, rfl, hk, ?_, rfl, own_below own2.out b4, B2.trans (b4.mono B2.size), HR2⟩
                    · have := O4.out; simpa using this
                    · have := HGL.out; omega
              · by_cases hc1 : c7 = 1
                · subst hc1
                  obtain rfl : r = [] := List.eq_nil_of_length_eq_zero (by omega)
                  go_wp2_with (first | (at_builtin; refine wpList_append_own_at _ rfl (.tmp 54) (.tmp 55) 76 rfl w2.heap.size 9 i0 _ 1 16 Tryd.underlying76 hi hz0 hz1 hz2 rfl (by decide) _ 0 [] rfl (World.ownsRow_nil _ _ _ _) ⟨gm, om, none⟩ m.length cm (strCells m) rfl (strCells_len _) (HRM.out).news (strCells_one _) (by unfold maxLen; omega) (by omega) (Nat.le_refl _) ?_; intro v3 w3 hown3 hgrow3 hnil3 hat3; have b3 : Below w2.heap.size w2 w3 := (Below.refl _ _).grown hgrow3 (Nat.le_refl _) (fun k hk => by cases hk); have RD3 := hide (RD2.out.below b3); have O3 := hide hown3; clear hown3 hgrow3 hnil3 hat3) | (at_builtin; refine wpList_append_own_at _ rfl (.tmp 57) (.tmp 59) 76 rfl w2.heap.size 9 i0 _ 1 16 Tryd.underlying76 hi hz0 hz1 hz2 rfl (by decide) _ (0 + m.length) ([] ++ strCells m) rfl O3.out ⟨g7, o7, none⟩ 0 0 (strCells []) rfl (strCells_len _) (RD3.out.tail0).news (strCells_one _) (by unfold maxLen; omega) (by omega) b3.size ?_; intro v4 w4 hown4 hgrow4 hnil4 hat4; have b4 : Below w2.heap.size w2 w4 := b3.grown hgrow4 b3.size (fun k hk => (O3.out.lt k hk).1); have O4 := hide hown4; clear hown4 hgrow4 hnil4 hat4))
                  go_wp2
                  go_roundg ((toks.length - k) * 100000 + Pr.sec (m ++ ([] : List Pq.Bytes)))
                  case measure => have := HSL.out; omega
                  case rel =>
                    refine ⟨m ++ ([] : List Pq.Bytes), k, RdS.ofOwn (B := w2.heap.size) (n := 0 + m.length + 0) ?_, rfl, hk, ?_, rfl, own_below own2.out b4, B2.trans (b4.mono B2.size), HR2⟩
                    · have := O4.out; rw [strCells_app]; simpa using this
                    · have := HGL.out; omega
                · have hc2 : 2 ≤ c7 := by omega
                  go_wp2_with (first | (at_builtin; refine wpList_append_own_at _ rfl (.tmp 54) (.tmp 55) 76 rfl w2.heap.size 9 i0 _ 1 16 Tryd.underlying76 hi hz0 hz1 hz2 rfl (by decide) _ 0 [] rfl (World.ownsRow_nil _ _ _ _) ⟨gm, om, none⟩ m.length cm (strCells m) rfl (strCells_len _) (HRM.out).news (strCells_one _) (by unfold maxLen; omega) (by omega) (Nat.le_refl _) ?_; intro v3 w3 hown3 hgrow3 hnil3 hat3; have b3 : Below w2.heap.size w2 w3 := (Below.refl _ _).grown hgrow3 (Nat.le_refl _) (fun k hk => by cases hk); have RD3 := hide (RD2.out.below b3); have O3 := hide hown3; clear hown3 hgrow3 hnil3 hat3) | (at_builtin; refine wpList_append_own_at _ rfl (.tmp 57) (.tmp 59) 76 rfl w2.heap.size 9 i0 _ 1 16 Tryd.underlying76 hi hz0 hz1 hz2 rfl (by decide) _ (0 + m.length) ([] ++ strCells m) rfl O3.out ⟨g7, o7 + 1, none⟩ r.length (c7 - 1) (strCells r) rfl (strCells_len _) (RD3.out.tail).news (strCells_one _) (by unfold maxLen; omega) (by omega) b3.size ?_; intro v4 w4 hown4 hgrow4 hnil4 hat4; have b4 : Below w2.heap.size w2 w4 := b3.grown hgrow4 b3.size (fun k hk => (O3.out.lt k hk).1); have O4 := hide hown4; clear hown4 hgrow4 hnil4 hat4))
                  go_wp2
                  go_roundg ((toks.length - k) * 100000 + Pr.sec (m ++ r))
                  case measure => have := HSL.out; omega
                  case rel =>
                    refine ⟨m ++ r, k, RdS.ofOwn (B := w2.heap.size) (n := 0 + m.length + r.length) ?_, rfl, hk, ?_, rfl, own_below own2.out b4, B2.trans (b4.mono B2.size), HR2⟩
                    · have := O4.out; rw [strCells_app]; simpa using this
                    · have := HGL.out; omega
    · rw [if_neg hl] at h1
      subst h1
      have hnn : 0 ≤ (Pq.lexFrom s.data.toList 0).2 := by
        rcases Pq.lexFrom_place s.data.toList 0 with h | h
        · exact absurd h hl
        · exact h
      go_wp2
      go_ret3
      refine ⟨b1, ?_⟩
      unfold RReadPost; rw [if_neg HP.out, if_neg hl]; rfl
end Go.Proofs.YtcoofnhdbejnpaaDoor
