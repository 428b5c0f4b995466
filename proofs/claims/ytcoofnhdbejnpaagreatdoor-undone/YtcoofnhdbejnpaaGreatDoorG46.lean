/- Package paneskeep: turned, copies, lists that read alike. -/
import Derived.Test.YtcoofnhdbejnpaaGreatDoorG36
import Derived.Test.YtcoofnhdbejnpaaGreatDoorG45
import Derived.Test.YtcoofnhdbejnpaaGreatDoorG13
namespace Go.Proofs.YtcoofnhdbejnpaaGreatDoor
open Go.RowKit
/-- the same changes with their numbers turned -/
def TurnPost (w : World) (l : List Pv.Chg) (e : Ending) (w' : World) : Prop := Below w.heap.size w w' ∧ ∃ x n c, e = .returned (.slice x n c) ∧ w'.ownsRow w.heap.size 50 4 (.slice x n c) l.length (rchgs (Pk.turnF l))
theorem turn_take (l : List Pv.Chg) (k : Nat) (h : k < l.length) : rchgs (Pk.turnF (l.take (k + 1))) = rchgs (Pk.turnF (l.take k)) ++ rchg (l[k].1, -l[k].2) := by
  rw [List.take_succ_eq_append_getElem h]
  unfold Pk.turnF
  rw [List.map_append]
  exact rchgs_snoc _ _
set_option maxRecDepth 100000 in
set_option maxHeartbeats 2000000 in
theorem turned_any {w : World} {v : Value} {l : List Pv.Chg} (hv : RdC w v l) (hl : l.length ≤ 1000) (hbd : ∀ c ∈ l, -1000000 ≤ c.2 ∧ c.2 ≤ 1000000) :
    Calls Tryz.prog 30 #[v] w fun e w' => TurnPost w l e w' := by
  obtain ⟨i0, hi, hz0, hz1, hz2⟩ := info_parts infoChg
  have HV := hide hv
  have HBD := hide hbd
  obtain ⟨av, cv, rfl⟩ := rdc_sl hv
  clear hv hbd
  go_enter Tryz.func30, Tryz.ntmps30
  go_wp2
  go_loopw [3, 4] (fun s i wr => ∃ k : Nat, k ≤ l.length ∧ i = .int .i64 k ∧ (∃ x n c, s = .slice x n c) ∧ Hid (Below w.heap.size w wr) ∧ Hid (wr.ownsRow w.heap.size 50 4 s k (rchgs (Pk.turnF (l.take k))))) (fun _ i _ => l.length - (intOf i).toNat)
  case atStart => exact ⟨0, by omega, rfl, ⟨_, _, _, rfl⟩, Below.refl _ _, World.ownsRow_nil _ _ _ _⟩
  case round =>
    obtain ⟨k, hk, rfl, ⟨x, n, c, rfl⟩, B1, O1⟩ := hrel
    have hs1 := B1.out.size
    by_cases hlt : k < l.length
    · have hlt' : (k : Int) < (l.length : Int) := by omega
      obtain ⟨g, off, cap, e, hcap⟩ := HV.out.form1 (by omega)
      cases e
      obtain ⟨c0, c1, c2, c3⟩ := (HV.out.below B1.out).cell k hlt
      have HT := hide (turn_take l k hlt)
      obtain ⟨n1, n2⟩ := HBD.out l[k] (List.getElem_mem hlt)
      have hw : IntKind.i64.wrap (-l[k].2) = -l[k].2 := wrap_id2 (by omega) (by omega)
      generalize hE : Pk.turnF (l.take k) = cur at *
      clear hE
      generalize l[k].2 = m at *
      generalize l[k].1 = r at *
      go_upto_region 5 with fail
      go_region_law (refine step_append_lies _ rfl (.tmp 11) (.tmp 24) 40 rfl w.heap.size 50 i0 _ 4 32 Tryz.underlying40 hi hz0 hz1 hz2 rfl (by decide) _ k (rchgs cur) rfl (O1.out.alloc _).drew _ 1 1 (rchg (r, -m)) rfl rfl (World.news_of_block (heap_alloc_new _ _)) (by intro u hu; simp [rchg] at hu; rcases hu with rfl | rfl | rfl | rfl <;> rfl) (by decide) (by unfold maxLen; omega) (by omega) (by simp; omega) _ rfl ?_; intro g6 cap6 w6 hown6 hgrow6 hat6 hlt6; have O6 := hide hown6; have B6 := hide ((below_dB (B1.out.alloc hs1 _)).grown hgrow6 (by simp; omega) (fun k hk => (O1.out.lt k hk).1)); clear hown6 hgrow6 hat6 hlt6)
      all_goals
        go_wp2
        go_roundw
        case rel => exact ⟨k + 1, by omega, by go_num, ⟨_, _, _, rfl⟩, B6, by rw [HT.out]; exact O6⟩
        case measure => simp [intOf]; omega
    · have hlt' : ¬ (k : Int) < (l.length : Int) := by omega
      obtain rfl : k = l.length := by omega
      rw [List.take_length] at O1
      go_wp2
      go_ret
      exact ⟨B1.out, x, n, c, rfl, O1.out⟩
set_option maxRecDepth 100000 in
set_option maxHeartbeats 1000000 in
theorem copies_any {w : World} {v : Value} {l : List Pv.Chg} (hv : RdC w v l) (hl : l.length ≤ 1000) (hbd : ∀ c ∈ l, -1000000 ≤ c.2 ∧ c.2 ≤ 1000000) :
    Calls Tryz.prog 33 #[v] w fun e w' => e = .returned (.int .i64 (Pv.totalF l)) ∧ w' = w := by
  have HV := hide hv
  have HBD := hide hbd
  obtain ⟨av, cv, rfl⟩ := rdc_sl hv
  clear hv hbd
  go_enter Tryz.func33, Tryz.ntmps33
  go_wp2
  go_loop [3, 4] (fun n i => ∃ k : Nat, k ≤ l.length ∧ i = .int .i64 k ∧ n = .int .i64 (Pv.totalF (l.take k))) (fun _ i => l.length - (intOf i).toNat)
  case atStart => exact ⟨0, by omega, rfl, rfl⟩
  case round =>
    obtain ⟨k, hk, rfl, rfl⟩ := hrel
    by_cases hlt : k < l.length
    · have hlt' : (k : Int) < (l.length : Int) := by omega
      obtain ⟨g, off, cap, e, hcap⟩ := HV.out.form1 (by omega)
      cases e
      obtain ⟨c0, c1, c2, c3⟩ := HV.out.cell k hlt
      have HT := hide (Pv.total_take l k hlt)
      obtain ⟨n1, n2⟩ := HBD.out l[k] (List.getElem_mem hlt)
      have htb := Pv.total_bd (t := l.take k) (b := 1000000) (fun c hc => HBD.out c (List.mem_of_mem_take hc))
      rw [List.length_take] at htb
      have t1 : -2000000000 ≤ Pv.totalF (l.take k) := by omega
      have t2 : Pv.totalF (l.take k) ≤ 2000000000 := by omega
      clear htb
      generalize Pv.totalF (l.take k) = s at *
      go_wp2
      go_round
      case rel => exact ⟨k + 1, by omega, by go_num, by rw [HT.out]⟩
      case measure => simp [intOf]; omega
    · have hlt' : ¬ (k : Int) < (l.length : Int) := by omega
      have HE : Hid (Pv.totalF (l.take k) = Pv.totalF l) := by show _ = _; rw [List.take_of_length_le (by omega)]
      go_wp2
      go_ret
      exact ⟨by rw [← HE.out]; rfl, rfl⟩
def krv (r : Pv.R3) : Value := .agg #[.int .i64 r.1, .int .i64 r.2.1, .int .i64 r.2.2]
set_option maxHeartbeats 1000000 in
theorem ksameRow_eq (r : Pv.R3) (w : World) : Calls Tryz.prog 20 #[krv r, krv r] w fun e w' => e = .returned (.bool true) ∧ Below w.heap.size w w' := by
  obtain ⟨p, u, v⟩ := r
  unfold krv
  simp only
  go_enter Tryz.func20, Tryz.ntmps20
  go_wp2
  go_ret
  exact ⟨by simp, ((Below.refl _ _).alloc (Nat.le_refl _) _).alloc (by simp) _⟩
set_option maxRecDepth 100000 in
set_option maxHeartbeats 1000000 in
theorem ksameVals_eq {w : World} {l : List Pv.Val} {sa sb : Value} (ha : RdV w sa l) (hb : RdV w sb l) (hl : l.length ≤ 1000000) :
    Calls Tryz.prog 21 #[sa, sb] w fun e w' => e = .returned (.bool true) ∧ Below w.heap.size w w' := by
  obtain ⟨xa, ca, rfl⟩ := RdG.sl ha
  obtain ⟨xb, cb, rfl⟩ := RdG.sl hb
  have HA := hide ha
  have HB := hide hb
  clear ha hb
  go_enter Tryz.func21, Tryz.ntmps21
  go_wp2
  go_loopw [5] (fun i wr => ∃ k m : Nat, k ≤ l.length ∧ i = .int .i64 k ∧ wr = w.drewN m) (fun i _ => l.length - (intOf i).toNat)
  case atStart => exact ⟨0, 0, by omega, rfl, rfl⟩
  case round =>
    obtain ⟨k, m, hk, rfl, rfl⟩ := hrel
    by_cases hkl : k < l.length
    · have hkl' : (k : Int) < (l.length : Int) := by omega
      obtain ⟨ga, offa, ca', ea, _⟩ := RdG.form1 HA.out (by omega)
      obtain ⟨gb, offb, cb', eb, _⟩ := RdG.form1 HB.out (by omega)
      cases ea
      cases eb
      obtain ⟨d0, d1⟩ := HA.out.cell k hkl
      obtain ⟨d2, d3⟩ := HB.out.cell k hkl
      generalize l[k].isSome = ok at *
      generalize l[k].getD 0 = n at *
      cases ok
      all_goals
        go_wp2
        go_quiet (fail)
        go_wp2
        go_roundw
        case rel => exact ⟨k + 1, m + nq, by omega, by go_num, rfl⟩
        case measure => simp [intOf]; omega
    · have hkl' : ¬ (k : Int) < (l.length : Int) := by omega
      go_wp2
      go_ret
      exact ⟨rfl, below_drewM (Below.refl _ _) _⟩
set_option maxRecDepth 100000 in
set_option maxHeartbeats 1000000 in
theorem ksameTables_eq {w : World} {l : List Pv.Chg} {sa sb : Value} (ha : RdC w sa l) (hb : RdC w sb l) (hl : l.length ≤ 100000000000000) :
    Calls Tryz.prog 32 #[sa, sb] w fun e w' => e = .returned (.bool true) ∧ Below w.heap.size w w' := by
  have HA := hide ha
  have HB := hide hb
  obtain ⟨xa, ca, rfl⟩ := rdc_sl ha
  obtain ⟨xb, cb, rfl⟩ := rdc_sl hb
  clear ha hb
  go_enter Tryz.func32, Tryz.ntmps32
  go_wp2
  go_loopw [5] (fun i wr => ∃ k : Nat, k ≤ l.length ∧ i = .int .i64 k ∧ Below w.heap.size w wr) (fun i _ => l.length - (intOf i).toNat)
  case atStart => exact ⟨0, by omega, rfl, Below.refl _ _⟩
  case round =>
    obtain ⟨k, hk, rfl, hbe⟩ := hrel
    have B1 := hide hbe
    clear hbe
    by_cases hkl : k < l.length
    · have hkl' : (k : Int) < (l.length : Int) := by omega
      obtain ⟨ga, offa, ca', ea, _⟩ := HA.out.form1 (by omega)
      obtain ⟨gb, offb, cb', eb, _⟩ := HB.out.form1 (by omega)
      cases ea
      cases eb
      obtain ⟨a0, a1, a2, a3⟩ := (HA.out.below B1.out).cell k hkl
      obtain ⟨b0, b1, b2, b3⟩ := (HB.out.below B1.out).cell k hkl
      go_upto_region 6 with fail
      go_still_tail 10, (by kernel_rfl)
      go_wp2_with fail
      refine (ksameRow_eq l[k].1 _).mono ?_
      rintro e w3 ⟨rfl, e3⟩
      replace e3 := undrew e3
      have B3 := hide (B1.out.trans (e3.mono B1.out.size))
      clear a0 a1 a2 a3 b0 b1 b2 b3 e3 B1
      obtain ⟨a0, a1, a2, a3⟩ := (HA.out.below B3.out).cell k hkl
      obtain ⟨b0, b1, b2, b3⟩ := (HB.out.below B3.out).cell k hkl
      go_wp2
      go_quiet (fail)
      go_wp2
      go_roundw
      case rel => exact ⟨k + 1, by omega, by go_num, below_drewM B3.out _⟩
      case measure => simp [intOf]; omega
    · have hkl' : ¬ (k : Int) < (l.length : Int) := by omega
      go_wp2
      go_ret
      exact ⟨rfl, B1.out⟩
/-- out rows with their numbers times a sign -/
def timesO (sg : Int) (l : List Pv.Out) : List Pv.Out := l.map (fun o => (o.1, o.2.1, sg * o.2.2))
set_option maxRecDepth 100000 in
set_option maxHeartbeats 2000000 in
theorem ksameOuts_eq {w : World} {l : List Pv.Out} {sa sb : Value} {sg : Int} (ha : RdO w sa (timesO sg l)) (hb : RdO w sb l) (hl : l.length ≤ 1000000) (hv : ∀ x ∈ l, x.2.1.length ≤ 1000 ∧ IntKind.i64.wrap (sg * x.2.2) = sg * x.2.2) :
    Calls Tryz.prog 31 #[sa, sb, .int .i64 sg] w fun e w' => e = .returned (.bool true) ∧ Below w.heap.size w w' := by
  have hlm : (timesO sg l).length = l.length := by simp [timesO]
  obtain ⟨xa, ca, ea⟩ := ha.sl
  rw [hlm] at ea
  subst ea
  obtain ⟨xb, cb, rfl⟩ := hb.sl
  have HA := hide ha
  have HB := hide hb
  have HV := hide hv
  have HLM := hide hlm
  clear ha hb hv hlm
  go_enter Tryz.func31, Tryz.ntmps31
  go_wp2
  go_loopw [7] (fun i wr => ∃ k : Nat, k ≤ l.length ∧ i = .int .i64 k ∧ Below w.heap.size w wr) (fun i _ => l.length - (intOf i).toNat)
  case atStart => exact ⟨0, by omega, rfl, Below.refl _ _⟩
  case round =>
    obtain ⟨k, hk, rfl, hbe⟩ := hrel
    have B1 := hide hbe
    clear hbe
    by_cases hkl : k < l.length
    · have hkl' : (k : Int) < (l.length : Int) := by omega
      obtain ⟨ga, offa, ca', ea, _⟩ := HA.out.form1 (by rw [HLM.out]; omega)
      obtain ⟨gb, offb, cb', eb, _⟩ := HB.out.form1 (by omega)
      rw [HLM.out] at ea
      cases ea
      cases eb
      obtain ⟨ya, da, hra, a0, a1, a2, a3, a4⟩ := (HA.out.below B1.out).cell k (by rw [HLM.out]; exact hkl)
      obtain ⟨yb, db, hrb, b0, b1, b2, b3, b4⟩ := (HB.out.below B1.out).cell k hkl
      simp only [timesO, List.getElem_map] at hra a0 a1 a2 a3 a4
      have HRA := hide hra
      have HRB := hide hrb
      clear hra hrb
      go_upto_region 6 with fail
      go_still_tail 10, (by kernel_rfl)
      go_wp2_with fail
      refine (ksameRow_eq l[k].1 _).mono ?_
      rintro e w3 ⟨rfl, e3⟩
      replace e3 := undrew e3
      have E3 := hide e3
      have c3 := (hide (e3.cell (p := ⟨ga, offa + k * 5 + 3, none⟩) (World.cell?_lt a3))).out.trans a3
      have c4 := (hide (e3.cell (p := ⟨ga, offa + k * 5 + 4, none⟩) (World.cell?_lt a4))).out.trans a4
      have d3 := (hide (e3.cell (p := ⟨gb, offb + k * 5 + 3, none⟩) (World.cell?_lt b3))).out.trans b3
      have d4 := (hide (e3.cell (p := ⟨gb, offb + k * 5 + 4, none⟩) (World.cell?_lt b4))).out.trans b4
      clear a0 a1 a2 a3 a4 b0 b1 b2 b3 b4 e3
      obtain ⟨hvk, hwk⟩ := HV.out l[k] (List.getElem_mem hkl)
      go_upto_region 7 with fail
      go_still_tail 10, (by kernel_rfl)
      go_wp2_with fail
      refine (ksameVals_eq (l := l[k].2.1) (HRA.out.below (below_d E3.out)) (HRB.out.below (below_d E3.out)) (by omega)).mono ?_
      rintro e w4 ⟨rfl, e4⟩
      replace e4 := undrew e4
      have f4 := (hide (e4.cell (p := ⟨ga, offa + k * 5 + 4, none⟩) (World.cell?_lt c4))).out.trans c4
      have g4 := (hide (e4.cell (p := ⟨gb, offb + k * 5 + 4, none⟩) (World.cell?_lt d4))).out.trans d4
      have E4 := hide (E3.out.trans (e4.mono E3.out.size))
      have B4 := hide (B1.out.trans (E4.out.mono B1.out.size))
      clear c3 c4 d3 d4 e4 B1
      go_wp2
      go_quiet (fail)
      go_wp2
      go_roundw
      case rel => exact ⟨k + 1, by omega, by go_num, below_drewM B4.out _⟩
      case measure => simp [intOf]; omega
    · have hkl' : ¬ (k : Int) < (l.length : Int) := by omega
      go_wp2
      go_ret
      exact ⟨rfl, B1.out⟩
end Go.Proofs.YtcoofnhdbejnpaaGreatDoor

/- Plain mathematics: what a query of the maker's is read as; a view of it. -/
namespace Go.Proofs.YtcoofnhdbejnpaaGreatDoor
open Go.RowKit
namespace Pk
open Pq (Bytes Tok PS)
theorem raw_of {q : Ast} (hq : GoodAst q) {y : TS} (h : Wr (kQuery q true) ⟨0, [], []⟩ y) (hl : y.raw.length ≤ 300) : Pq.readE y.raw = 0 ∧ ∃ n, Pq.endPS y.raw = astPS q n true := by
  obtain ⟨h1, h2⟩ := read_toks h (adj_query hq true)
  have h3 := query_ok y.raw.length hq h2
  have he : Pq.endPS y.raw = astPS q (Pq.toksOf y.raw).length true := h3
  refine ⟨?_, _, he⟩
  rw [(Pq.readE_ok (by omega) h1).1, he]
  simp [Pq.faultE, astPS]
/-- the same query, without top and with it -/
theorem raw_both (l : Bytes) (b : Bool) : ∃ q : Ast, GoodAst q ∧ q.top = none ∧ (Pq.readE (queryS l b false).raw = 0 ∧ ∃ n, Pq.endPS (queryS l b false).raw = astPS q n true) ∧ ∃ a c : Nat, GoodAst ⟨q.by', q.keys, q.funcs, some (a, c)⟩ ∧ Pq.readE (queryS l b true).raw = 0 ∧ ∃ n, Pq.endPS (queryS l b true).raw = astPS ⟨q.by', q.keys, q.funcs, some (a, c)⟩ n true := by
  obtain ⟨q, hq, hnone, hw, hL⟩ := main_wr l b
  refine ⟨q, hq, hnone, raw_of hq hw (Nat.le_trans hL.1 (by omega)), ?_⟩
  have e : queryS l b true = topS l (mainS l b ⟨0, [], []⟩) := rfl
  rw [e]
  generalize mainS l b ⟨0, [], []⟩ = m at *
  have hT : topS l m = top4 l (numberS l (nxt l (wordS l [116, 111, 112] m).a 6) true ((wordS l [116, 111, 112] m).eat l)) := rfl
  have ha := nxt_lt l (wordS l [116, 111, 112] m).a 6 (by omega)
  have w1 := (Wr.word l [116, 111, 112] m).one ((Wr.eat _ l).app (Wr.number l (nxt l (wordS l [116, 111, 112] m).a 6) true ((wordS l [116, 111, 112] m).eat l)))
  have L1 := ((hL.word l [116, 111, 112] (k := 3) (by simp)).eat l).number l (nxt l (wordS l [116, 111, 112] m).a 6) true
  rw [hT]
  generalize nxt l (wordS l [116, 111, 112] m).a 6 = a at *
  generalize numberS l a true ((wordS l [116, 111, 112] m).eat l) = z at *
  have hb := nxt_lt l z.a 3 (by omega)
  have w2 : Wr [.w Pq.wFrom, .n (nxt l z.a 3) true] z (top5 l z) := (Wr.eat z l).app ((Wr.word l [102, 114, 111, 109] _).one (Wr.number l (nxt l z.a 3) true _))
  have L2 : Ln 280 (top5 l z) := (((L1.eat l).word l [102, 114, 111, 109] (k := 4) (by simp)).number l (nxt l z.a 3) true).mono (by omega)
  have hraw : (top4 l z).raw = (top5 l z).raw := by unfold top4; split <;> rfl
  rw [hraw]
  generalize nxt l z.a 3 = c at *
  generalize top5 l z = u at *
  have hq' : GoodAst ⟨q.by', q.keys, q.funcs, some (a, c)⟩ := ⟨hq.byN, hq.byL, hq.keys, hq.fne, hq.fl, hq.fg, fun x y e => by simp at e; omega⟩
  have hW : Wr (kQuery ⟨q.by', q.keys, q.funcs, some (a, c)⟩ true) ⟨0, [], []⟩ u := by
    have hk : kQuery ⟨q.by', q.keys, q.funcs, some (a, c)⟩ true = kQuery q true ++ (.w Pq.wTop :: .n a true :: [.w Pq.wFrom, .n c true]) := by
      unfold kQuery
      rw [hnone]
      simp [kTop]
    rw [hk]
    have := (hw.app w1).app w2
    simpa [Pq.wTop] using this
  exact ⟨a, c, hq', raw_of hq' hW (Nat.le_trans L2.1 (by omega))⟩
theorem raw_ast (l : Bytes) (b t : Bool) : ∃ q : Ast, GoodAst q ∧ Pq.readE (queryS l b t).raw = 0 ∧ ∃ n, Pq.endPS (queryS l b t).raw = astPS q n true := by
  obtain ⟨q, hq, _, h1, a, c, hq2, h2⟩ := raw_both l b
  cases t
  · exact ⟨q, hq, h1⟩
  · exact ⟨_, hq2, h2⟩
/-- the query that is shown -/
def qryOf (q : Ast) : Pv.Qry := ⟨q.by', q.keys, q.funcs, (match q.top with | some (a, _) => (a : Int) | none => -1), (match q.top with | some (_, b) => (b : Int) | none => 0)⟩
theorem edgeOk_of (e : Pq.Edge) (h : GoodEdge e) : EdgeOk e := ⟨h.kind, h.num.1, by have := h.num.2; omega⟩
theorem frameOk_of (f : Pq.Frame) (h : GoodFrame f) : FrameOk f := by
  have z : EdgeOk e0 := ⟨by decide, by decide, by decide⟩
  induction f, h using GoodFrame_ind with
  | all => exact ⟨by decide, by decide, by decide, z, z⟩
  | peers => exact ⟨by decide, by decide, by decide, z, z⟩
  | near n h => exact ⟨by simp only []; omega, by simp only []; omega, by simp only []; omega, z, z⟩
  | between a b ha hb => exact ⟨by simp only []; omega, by simp only []; omega, by simp only []; omega, edgeOk_of a ha, edgeOk_of b hb⟩
theorem fnOk_of (f : Pq.Fn) (h : GoodFn f) : FnOk f := by
  have z : EdgeOk e0 := ⟨by decide, by decide, by decide⟩
  have zf : FrameOk Pq.fr0 := ⟨by decide, by decide, by decide, ⟨by decide, by decide, by decide⟩, ⟨by decide, by decide, by decide⟩⟩
  induction f, h using GoodFn_ind with
  | plain k h => exact ⟨by simp only []; omega, by simp only []; omega, by simp only []; omega, by simp only []; omega, by simp only []; omega, zf⟩
  | tile n h h0 => exact ⟨by simp only []; omega, by simp only []; omega, by simp only []; omega, by simp only []; omega, by simp only []; omega, zf⟩
  | lag k c n hk hc h => exact ⟨by simp only []; omega, hc, by simp only []; omega, by simp only []; omega, by simp only []; omega, zf⟩
  | over k c f h6 hk hc hf => exact ⟨hk, hc, by simp only []; omega, by simp only []; omega, by simp only []; omega, frameOk_of f hf⟩
end Pk
theorem QX.of {w : World} {B : Nat} {vb vk vf : Value} {q : Pk.Ast} (hq : Pk.GoodAst q) {n : Nat} {s : Pq.PS} (hs : s = Pk.astPS q n true) (o1 : w.ownsRow B 215 1 vb s.by'.length (colCells s.by')) (o2 : w.ownsRow B 253 2 vk s.keys.length (keyCells s.keys)) (o3 : w.ownsRow B 223 9 vf s.funcs.length (fnCells s.funcs)) (l1 : s.by'.length ≤ 301) (l2 : s.keys.length ≤ 301) : QX w vb vk vf s.hasTop s.top s.frm (Pk.qryOf q) := by
  subst hs
  have hfl := hq.fl
  refine ⟨RdG.ofOwn o1, RdG.ofOwn o2, RdG.ofOwn o3, Nat.le_trans l1 (by omega), hq.byL, Nat.le_trans l2 (by omega), fun k hk => hq.keys.lt k hk, hq.keys.ne, Nat.le_trans hfl (by omega), fun f hf => Pk.fnOk_of f (hq.fg f hf), ?_, ?_, ?_, ?_, ?_, ?_, ?_⟩
  all_goals
    have ht := hq.top
    unfold Pk.astPS
    try unfold Pk.qryOf
    cases hc : q.top with
    | none => simp
    | some x =>
      obtain ⟨a, b⟩ := x
      have := ht a b hc
      simp <;> omega
/-- a view just begun -/
def BegPost (w : World) (q : Pk.Ast) (e : Ending) (w' : World) : Prop :=
  Below w.heap.size w w' ∧ ∃ g vb vk vf has tp fr, e = .returned (.tuple #[.pointer (some ⟨g, 0, none⟩), .bool true]) ∧ w.heap.size ≤ g ∧ XV w' g vb vk vf has tp fr (.slice none 0 0) (Pk.qryOf q) []
set_option maxHeartbeats 1000000 in
theorem begin_any {s : ByteArray} {q : Pk.Ast} {n : Nat} (hs : s.size ≤ maxLen) (hq : Pk.GoodAst q) (hr : Pq.readE s.data.toList = 0) (he : Pq.endPS s.data.toList = Pk.astPS q n true) (w : World) :
    Calls Tryz.prog 16 #[.string s] w fun e w' => BegPost w q e w' := by
  have HQ := hide hq
  have HR := hide hr
  have HE := hide he
  clear hq hr he
  go_enter Tryz.func16, Tryz.ntmps16
  go_wp2_with fail
  refine (new_any s w hs).mono ?_
  rintro e w1 ⟨b1, ⟨hne, _⟩ | ⟨_, g, vb, vk, vf, hg, hg2, rfl, hblk, o1, o2, o3, l1, l2, l3⟩⟩
  · exact absurd HR.out hne
  · have XX : Hid (XV w1 g vb vk vf (Pq.endPS s.data.toList).hasTop (Pq.endPS s.data.toList).top (Pq.endPS s.data.toList).frm (.slice none 0 0) (Pk.qryOf q) []) := ⟨hblk, QX.of HQ.out HE.out o1 o2 o3 l1 l2, RdC.ofOwn (B := 0) (n := 0) (World.ownsRow_nil _ _ _ _), Pv.TInv.nil⟩
    have B1 := hide b1
    clear hblk o1 o2 o3 l1 l2 l3 b1
    go_wp2
    go_ret2
    exact ⟨B1.out, g, _, _, _, _, _, _, rfl, hg, XX.out⟩
end Go.Proofs.YtcoofnhdbejnpaaGreatDoor

