/- Package panesref: counted. -/
import Derived.Test.YtcoofnhdbejnpaaGreatDoorG22
import Derived.Test.YtcoofnhdbejnpaaGreatDoorG03
import Derived.Test.YtcoofnhdbejnpaaGreatDoorG27
import Derived.Test.YtcoofnhdbejnpaaGreatDoorG21
namespace Go.Proofs.YtcoofnhdbejnpaaGreatDoor
open Go.RowKit
theorem oc_one (o : Pv.Out) (x : Option Addr) (n c : Nat) : ∀ u ∈ oc o (.slice x n c), u.oneCell' = true := by
  intro u hu; simp [oc] at hu; rcases hu with rfl | rfl | rfl | rfl | rfl <;> rfl
theorem RdG.kept {T sz : Nat} {w w' : World} {v : Value} {n : Nat} {cs : List Value} (h : RdG T sz w v n cs) {row : Option Nat} (hg : w.grownBy w' row) (hne : ∀ k, row = some k → ∃ cur T' fz, w.heap[k]? = some (.cells cur T' fz) ∧ T' ≠ T) : RdG T sz w' v n cs := by
  refine ⟨h.1, ?_⟩
  rcases h.2 with h | ⟨g, off, cap, cur, fz, h1, h2, h3, h4⟩
  · exact .inl h
  · refine .inr ⟨g, off, cap, cur, fz, h1, h2, ?_, h4⟩
    rw [hg.block g (Array.getElem?_eq_some_iff.1 h3).1 ?_]
    · exact h3
    · intro e
      obtain ⟨cur', T', fz', e1, e2⟩ := hne g e.symm
      rw [h3] at e1
      cases e1
      exact e2 rfl
theorem own_type {w : World} {B e sz : Nat} {v : Value} {n : Nat} {xs : List Value} (h : w.ownsRow B e sz v n xs) {k : Nat} (hk : v.ownBlock = some k) : ∃ cur fz, w.heap[k]? = some (.cells cur e fz) := by
  rcases h.2 with ⟨h1, _⟩ | ⟨g, cap, cur, h1, h2, h3, _⟩
  · rw [h1] at hk; cases hk
  · rw [h1] at hk; cases hk; exact ⟨cur, _, h3⟩
theorem ValsRd.kept {w w' : World} {vs : List Value} {l : List Pv.Out} (h : ValsRd w vs l) {row : Option Nat} (hg : w.grownBy w' row) (hne : ∀ k, row = some k → ∃ cur T' fz, w.heap[k]? = some (.cells cur T' fz) ∧ T' ≠ 52) : ValsRd w' vs l := ⟨h.1, fun j h1 h2 => RdG.kept (h.2 j h1 h2) hg hne⟩
theorem grown_set (W : World) (b j : Nat) (v : Value) : W.grownBy (W.setCell ⟨b, j, none⟩ v) (some b) :=
  ⟨rfl, rfl, rfl, by simp [World.setCell], fun i _ hne => by
    have : ¬ b = i := fun e => hne (by rw [e])
    simp [World.setCell, Array.getElem?_modify, this]⟩
theorem OwnO.app {W W8 : World} {B : Nat} {v v8 : Value} {L : List Pv.Out} {vz : List Value} {o : Pv.Out} {s : Value} (hvz : ValsRd W vz L) (hs : RdV W s o.2.1) (ho : W.ownsRow B 55 5 v L.length (routs L vz)) (hg : W.grownBy W8 v.ownBlock) (h8 : W8.ownsRow B 55 5 v8 (L.length + 1) (routs L vz ++ oc o s)) : OwnO W8 B v8 (L ++ [o]) := by
  have hne : ∀ k, v.ownBlock = some k → ∃ cur T' fz, W.heap[k]? = some (.cells cur T' fz) ∧ T' ≠ 52 := fun k hk => by
    obtain ⟨cur, fz, h⟩ := own_type ho hk
    exact ⟨cur, _, fz, h, by decide⟩
  refine ⟨vz ++ [s], ValsRd.snoc (hvz.kept hg hne) (RdG.kept hs hg hne), ?_⟩
  rw [routs_snoc L vz hvz.1, List.length_append]
  exact h8
end Go.Proofs.YtcoofnhdbejnpaaGreatDoor

/- Lists of out rows: a new one, an out row laid into it. -/
namespace Go.Proofs.YtcoofnhdbejnpaaGreatDoor
open Go.RowKit
theorem routs_set : ∀ (l : List Pv.Out) (vs : List Value) (_ : vs.length = l.length) (j : Nat) (o : Pv.Out) (s : Value), j < l.length → routs (l.set j o) (vs.set j s) = (((((routs l vs).set (j * 5) (.int .i64 o.1.1)).set (j * 5 + 1) (.int .i64 o.1.2.1)).set (j * 5 + 2) (.int .i64 o.1.2.2)).set (j * 5 + 3) s).set (j * 5 + 4) (.int .i64 o.2.2)
  | [], _, _, _, _, _, h => by simp at h
  | d :: l, [], h, _, _, _, _ => by simp at h
  | d :: l, t :: vs, h, 0, o, s, _ => by simp [routs, oc]
  | d :: l, t :: vs, h, j + 1, o, s, hj => by
    have ih := routs_set l vs (by simpa using h) j o s (by simpa using hj)
    have e : (j + 1) * 5 = j * 5 + 5 := by omega
    rw [List.set_cons_succ, List.set_cons_succ]
    show oc d t ++ routs (l.set j o) (vs.set j s) = _
    rw [ih, e]
    simp [routs, oc]
/-- five stores into a block -/
abbrev store5 (w : World) (g j : Nat) (o : Pv.Out) (s : Value) : World := ((((w.setCell ⟨g, j * 5, none⟩ (.int .i64 o.1.1)).setCell ⟨g, j * 5 + 1, none⟩ (.int .i64 o.1.2.1)).setCell ⟨g, j * 5 + 2, none⟩ (.int .i64 o.1.2.2)).setCell ⟨g, j * 5 + 3, none⟩ s).setCell ⟨g, j * 5 + 4, none⟩ (.int .i64 o.2.2)
theorem grown_store5 (w : World) (g j : Nat) (o : Pv.Out) (s : Value) : w.grownBy (store5 w g j o s) (some g) :=
  ((((grown_set w g _ _).trans (grown_set _ g _ _)).trans (grown_set _ g _ _)).trans (grown_set _ g _ _)).trans (grown_set _ g _ _)
theorem OwnO.set {w : World} {B g cap n : Nat} {l : List Pv.Out} (h : OwnO w B (.slice (some ⟨g, 0, none⟩) n cap) l) (j : Nat) (hj : j < l.length) (o : Pv.Out) {s : Value} (hs : RdV w s o.2.1) : OwnO (store5 w g j o s) B (.slice (some ⟨g, 0, none⟩) n cap) (l.set j o) := by
  obtain ⟨vs, hv, ho⟩ := h
  have hne : ∀ k, some g = some k → ∃ cur T' fz, w.heap[k]? = some (.cells cur T' fz) ∧ T' ≠ 52 := fun k hk => by
    cases hk
    obtain ⟨cur, fz, h⟩ := own_type ho (k := g) rfl
    exact ⟨cur, _, fz, h, by decide⟩
  have hv2 := hv.kept (grown_store5 w g j o s) hne
  have hs2 := RdG.kept hs (grown_store5 w g j o s) hne
  refine ⟨vs.set j s, ⟨by simp [hv.1], fun i h1 h2 => ?_⟩, ?_⟩
  · by_cases e : j = i
    · subst e
      simp only [List.getElem_set_self]
      exact hs2
    · simp only [List.getElem_set_ne e]
      exact hv2.2 i (by simpa using h1) (by simpa using h2)
  · have hl := ho.1
    rw [List.length_set]
    refine ⟨by rw [routs_len _ _ (by simp [hv.1]), List.length_set], ?_⟩
    rcases ho.2 with ⟨h1, _⟩ | ⟨g', cap', cur, h1, h2, h3, h4, h5, h6, h7⟩
    · cases h1
    · cases h1
      refine .inr ⟨g, cap, ((((cur.setIfInBounds (j * 5) (.int .i64 o.1.1)).setIfInBounds (j * 5 + 1) (.int .i64 o.1.2.1)).setIfInBounds (j * 5 + 2) (.int .i64 o.1.2.2)).setIfInBounds (j * 5 + 3) s).setIfInBounds (j * 5 + 4) (.int .i64 o.2.2), rfl, h2, ?_, h4, h5, by simpa using h6, ?_⟩
      · simp [store5, World.setCell, Array.getElem?_modify, h3]
      · rw [routs_set l vs hv.1 j o s hj, ← h7]
        simp only [Array.toList_setIfInBounds]
        rw [List.take_set, List.take_set, List.take_set, List.take_set, List.take_set]
end Go.Proofs.YtcoofnhdbejnpaaGreatDoor

/- Package panesref: Shown. -/
namespace Go.Proofs.YtcoofnhdbejnpaaGreatDoor
open Go.RowKit
/-- a query's value, with all that its reading gives -/
structure QOk (w : World) (q : Value) (Q : Pv.Qry) (bl kl : List Pq.Tok) (segs : List (List Pq.Tok)) : Prop where
  rd : QRd w q bl kl segs Q.top Q.frm
  lb : bl.length ≤ 1000
  lk : kl.length ≤ 1000
  ks : ∀ a b, Pv.beforeT a b kl = Pv.beforeK Q.ks a b
  cs : ∀ a b, Pv.matesT a b bl = Pv.matesC Q.cs a b
  k0 : 0 < kl.length
  kc : ∀ (h : 0 < kl.length) r, Pv.colB (kl[0]'h).text r = Pv.colV (Pv.col0 Q.ks) r
  fl : segs.length = Q.fs.length
  fs : ∀ j (h1 : j < segs.length) (h2 : j < Q.fs.length), Pr.FnSeg Q.fs[j] segs[j] ∧ segs[j].length ≤ 900
  ft : ∀ f ∈ Q.fs, f.kind = 3 → f.num ≠ 0
  f4 : Q.fs.length ≤ 100
  top1 : -1 ≤ Q.top
  top2 : Q.top ≤ 99
  frm1 : 0 ≤ Q.frm
  frm2 : Q.frm ≤ 99
theorem QOk.below {w w' : World} {q : Value} {Q : Pv.Qry} {bl kl : List Pq.Tok} {segs : List (List Pq.Tok)} (h : QOk w q Q bl kl segs) (hb : Below w.heap.size w w') : QOk w' q Q bl kl segs :=
  ⟨h.rd.below hb, h.lb, h.lk, h.ks, h.cs, h.k0, h.kc, h.fl, h.fs, h.ft, h.f4, h.top1, h.top2, h.frm1, h.frm2⟩
theorem RdL.form1 {w : World} {v : Value} {vals : List Value} (h : RdL w v vals) (h0 : 0 < vals.length) : ∃ g off c, v = .slice (some ⟨g, off, none⟩) vals.length c := by
  rcases h with ⟨_, h⟩ | ⟨g, off, cap, cur, fz, h, _⟩
  · rw [h] at h0; simp at h0
  · exact ⟨_, _, _, h⟩
theorem RdL.len {w : World} {x : Option Addr} {n c : Nat} {vals : List Value} (h : RdL w (.slice x n c) vals) : n = vals.length := by
  rcases h with ⟨h, h2⟩ | ⟨g, off, cap, cur, fz, h, _⟩
  · cases h; rw [h2]; rfl
  · cases h; rfl
theorem bcell {W w1 : World} (hb : Below W.heap.size W w1) : (∀ b o, b < W.heap.size → w1.cell? ⟨b, o, none⟩ = W.cell? ⟨b, o, none⟩) ∧ (∀ b o, b < W.heap.size → w1.frozen? ⟨b, o, none⟩ = W.frozen? ⟨b, o, none⟩) :=
  ⟨fun b o h => hb.cell (p := ⟨b, o, none⟩) h, fun b o h => hb.frozen (p := ⟨b, o, none⟩) h⟩
theorem World.cell?_lt {w : World} {a : Addr} {v : Value} (h : w.cell? a = some v) : a.block < w.heap.size := by
  unfold World.cell? at h
  rcases Nat.lt_or_ge a.block w.heap.size with h1 | h1
  · exact h1
  · rw [Array.getElem?_eq_none h1] at h; simp at h
theorem set53 {W : World} {b : Nat} {v0 v1 v2 v3 v4 : Value} {T : Nat} (h : Blk W b #[v0, v1, v2, v3, v4] T) (y : Value) : Blk (W.setCell ⟨b, 3, none⟩ y) b #[v0, v1, v2, y, v4] T := by
  have h' : W.heap[b]? = some (.cells #[v0, v1, v2, v3, v4] T (0, 0)) := h
  simp [Blk, World.setCell, Array.getElem?_modify, h']
theorem Blk.grown {W W8 : World} {b : Nat} {cs : Array Value} {t : Nat} {row : Option Nat} (h : Blk W b cs t) (hg : W.grownBy W8 row) (hne : some b ≠ row) : Blk W8 b cs t := (hg.block b (Array.getElem?_eq_some_iff.1 h).1 hne).trans h
theorem vc_one (v : Pv.Val) : ∀ u ∈ vc v, u.oneCell' = true := by
  intro u hu; simp [vc] at hu; rcases hu with rfl | rfl <;> rfl
theorem top_ok (Q : Pv.Qry) (i : Int) : Pv.topOk Q i = (decide (Q.top < 0) || (decide (Q.frm < i) && decide (i ≤ Q.frm + Q.top))) := rfl
end Go.Proofs.YtcoofnhdbejnpaaGreatDoor

/- Package lines: out, shown. -/
namespace Go.Proofs.YtcoofnhdbejnpaaGreatDoor
open Go.RowKit
theorem vv_agg (v : Pv.Val) : vv v = .agg #[.bool v.isSome, .int .i64 (v.getD 0)] := by cases v <;> rfl
theorem set5 {W : World} {b : Nat} {v0 v1 v2 v3 v4 : Value} {T : Nat} (h : Blk W b #[v0, v1, v2, v3, v4] T) (x0 x1 x2 x3 x4 : Value) : Blk (((((W.setCell ⟨b, 0, none⟩ x0).setCell ⟨b, 1, none⟩ x1).setCell ⟨b, 2, none⟩ x2).setCell ⟨b, 3, none⟩ x3).setCell ⟨b, 4, none⟩ x4) b #[x0, x1, x2, x3, x4] T := by
  have h' : W.heap[b]? = some (.cells #[v0, v1, v2, v3, v4] T (0, 0)) := h
  simp [Blk, World.setCell, Array.getElem?_modify, h']
theorem own_set_far {w : World} {B e sz n : Nat} {v : Value} {xs : List Value} {b j : Nat} {x : Value} (h : w.ownsRow B e sz v n xs) (hne : ∀ k, v.ownBlock = some k → k ≠ b) : (w.setCell ⟨b, j, none⟩ x).ownsRow B e sz v n xs := by
  refine h.kept (grown_set w b j x) ?_
  cases hs : v.ownBlock with
  | none => exact .inl rfl
  | some k => exact .inr (fun e => by cases e; exact hne _ hs rfl)
/-- the out row as it is made: the result's block, its own block, the values so far -/
structure OW (w wy : World) (p u v : Int) (s : Value) (vals : List Pv.Val) : Prop where
  res : Blk wy w.heap.size #[.int .i64 0, .int .i64 0, .int .i64 0, .slice none 0 0, .int .i64 0] 55
  own : Blk wy (w.heap.size + 1) #[.int .i64 p, .int .i64 u, .int .i64 v, s, .int .i64 1] 55
  vs : wy.ownsRow (w.heap.size + 1 + 1) 52 2 s vals.length (rvals vals)
  bl : Below w.heap.size w wy
theorem OW.below {w wy w1 : World} {p u v : Int} {s : Value} {vals : List Pv.Val} (h : OW w wy p u v s vals) (hb : Below wy.heap.size wy w1) : OW w w1 p u v s vals :=
  ⟨h.res.below hb, h.own.below hb, own_below h.vs hb, h.bl.trans (hb.mono h.bl.size)⟩
theorem OW.push {w wy W w8 : World} {p u v : Int} {s s8 : Value} {vals : List Pv.Val} {x : Pv.Val} (h : OW w wy p u v s vals) (hW : Below wy.heap.size wy W) (hg : W.grownBy w8 s.ownBlock) (h8 : w8.ownsRow (w.heap.size + 1 + 1) 52 2 s8 (vals.length + 1) (rvals vals ++ vc x)) :
    Blk w8 (w.heap.size + 1) #[.int .i64 p, .int .i64 u, .int .i64 v, s, .int .i64 1] 55 ∧ OW w (w8.setCell ⟨w.heap.size + 1, 3, none⟩ s8) p u v s8 (vals ++ [x]) := by
  have h1 := h.below hW
  have n1 : ∀ k, s.ownBlock = some k → w.heap.size + 1 + 1 ≤ k := fun k hk => (h.vs.lt k hk).1
  have hb : Blk w8 (w.heap.size + 1) #[.int .i64 p, .int .i64 u, .int .i64 v, s, .int .i64 1] 55 := by
    unfold Blk
    rw [hg.block _ (Array.getElem?_eq_some_iff.1 h1.own).1 (fun e => by have := n1 _ e.symm; omega)]
    exact h1.own
  refine ⟨hb, ⟨?_, set53 hb s8, ?_, ?_⟩⟩
  · unfold Blk
    rw [set_far _ _ _ _ _ (by omega), hg.block _ (Array.getElem?_eq_some_iff.1 h1.res).1 (fun e => by have := n1 _ e.symm; omega)]
    exact h1.res
  · rw [rvals_snoc, List.length_append]
    refine h8.kept (grown_set w8 _ 3 _) ?_
    cases hs : s8.ownBlock with
    | none => exact .inl rfl
    | some k => exact .inr (fun e => by cases e; have := (h8.lt _ hs).1; omega)
  · exact (h1.bl.grown hg (Nat.le_of_lt (by have := (Array.getElem?_eq_some_iff.1 h1.res).1; omega)) (fun k hk => by have := n1 k hk; omega)).setCell (p := ⟨w.heap.size + 1, 3, none⟩) (by simp) _
theorem vals_take (ks : List (Nat × Bool)) (L : List Pv.R3) (fs : List Pq.Fn) (i k : Nat) (h : k < fs.length) : (fs.take (k + 1)).map (fun f => Pv.valR ks L f i) = (fs.take k).map (fun f => Pv.valR ks L f i) ++ [Pv.valR ks L fs[k] i] := by
  rw [List.take_succ_eq_append_getElem h, List.map_append]; rfl
set_option maxRecDepth 100000 in
set_option maxHeartbeats 4000000 in
theorem lout_any {w : World} {g o : Nat} {vk vc vf : Value} {ks : List (Nat × Bool)} {L : List Pv.R3} {fs : List Pq.Fn} (h : LnAt w g o vk vc ks L) (hk : LnOk ks L) (hf : RdF w vf fs) (hfo : ∀ f ∈ fs, FnOk f) (hfl : fs.length ≤ 1000) (i : Nat) (hi : i < L.length) :
    Calls Tryz.prog 102 #[.pointer (some ⟨g, o, none⟩), vf, .int .i64 ((i : Int) + 1)] w fun e w' => Below w.heap.size w w' ∧ ∃ s, e = .returned (.agg #[.int .i64 L[i].1, .int .i64 L[i].2.1, .int .i64 L[i].2.2, s, .int .i64 1]) ∧ w'.ownsRow w.heap.size 52 2 s fs.length (rvals (fs.map (fun f => Pv.valR ks L f (i + 1)))) := by
  obtain ⟨i0, hin, hz0, hz1, hz2⟩ := info_parts infoVal
  have HH := hide h
  have HK := hide hk
  have HF := hide hf
  have HFO := hide hfo
  have hll := hk.ll
  obtain ⟨xc, cc, rfl⟩ := RdG.sl h.rc
  obtain ⟨xf, cf, rfl⟩ := RdG.sl hf
  obtain ⟨gc, oc, capc, e, _⟩ := RdG.form1 h.rc (by omega)
  cases e
  have q1 := h.c1
  obtain ⟨c0, c1, c2⟩ := h.rc.cell i hi
  have hi' : (i : Int) < (L.length : Int) := by omega
  have hwi : IntKind.i64.wrap (i : Int) = (i : Int) := wrap_id (by omega) (by omega)
  have hgl := cell_lt q1
  have hcl := cell_lt c0
  have QA : ∀ ob : Obj, (w.alloc ob).cell? ⟨g, o + 1, none⟩ = some (.slice (some ⟨gc, oc, none⟩) L.length cc) := fun ob => (((Below.refl w.heap.size w).alloc (Nat.le_refl _) ob).cell (p := ⟨g, o + 1, none⟩) hgl).trans q1
  have CA : ∀ ob : Obj, (w.alloc ob).cell? ⟨gc, oc + i * 3, none⟩ = some (.int .i64 L[i].1) ∧ (w.alloc ob).cell? ⟨gc, oc + i * 3 + 1, none⟩ = some (.int .i64 L[i].2.1) ∧ (w.alloc ob).cell? ⟨gc, oc + i * 3 + 2, none⟩ = some (.int .i64 L[i].2.2) := fun ob => by
    obtain ⟨d0, d1, d2⟩ := (h.rc.below ((Below.refl w.heap.size w).alloc (Nat.le_refl _) ob)).cell i hi
    exact ⟨d0, d1, d2⟩
  have qa := QA (.cells #[.int .i64 0, .int .i64 0, .int .i64 0, .slice none 0 0, .int .i64 0] 55)
  obtain ⟨ca0, ca1, ca2⟩ := CA (.cells #[.int .i64 0, .int .i64 0, .int .i64 0, .slice none 0 0, .int .i64 0] 55)
  clear h hk hf hfo QA CA q1 c0 c1 c2
  go_enter Tryz.func102, Tryz.ntmps102
  go_upto_region 2 with fail
  have C0 := hide (K2.start w #[.int .i64 0, .int .i64 0, .int .i64 0, .slice none 0 0, .int .i64 0] 55 #[.int .i64 L[i].1, .int .i64 L[i].2.1, .int .i64 L[i].2.2, .slice none 0 0, .int .i64 1] 55)
  generalize ((w.alloc (.cells #[.int .i64 0, .int .i64 0, .int .i64 0, .slice none 0 0, .int .i64 0] 55)).alloc (.cells #[.int .i64 L[i].1, .int .i64 L[i].2.1, .int .i64 L[i].2.2, .slice none 0 0, .int .i64 1] 55)) = w0 at *
  clear qa ca0 ca1 ca2
  go_wp2_with fail
  go_loopw [8] (fun r wr => ∃ k : Nat, k ≤ fs.length ∧ r = .int .i64 k ∧ ∃ x n c, OW w wr L[i].1 L[i].2.1 L[i].2.2 (.slice x n c) ((fs.take k).map (fun f => Pv.valR ks L f (i + 1)))) (fun r _ => fs.length - (intOf r).toNat)
  case atStart => exact ⟨0, by omega, rfl, none, 0, 0, C0.out.a, C0.out.b, World.ownsRow_nil _ _ _ _, C0.out.bl⟩
  case round =>
    obtain ⟨k, hk, rfl, x, n, c, how⟩ := hrel
    have O1 := hide how
    clear how
    by_cases hlt : k < fs.length
    · have hlt' : (k : Int) < (fs.length : Int) := by omega
      obtain ⟨gf, off, capf, e, _⟩ := RdG.form1 HF.out (by omega)
      cases e
      have hrf := HF.out.below O1.out.bl
      have f0 := hrf.cell k hlt 0 (by omega) _ rfl
      have f1 := hrf.cell k hlt 1 (by omega) _ rfl
      have f2 := hrf.cell k hlt 2 (by omega) _ rfl
      have f3 := hrf.cell k hlt 3 (by omega) _ rfl
      have f4 := hrf.cell k hlt 4 (by omega) _ rfl
      have f5 := hrf.cell k hlt 5 (by omega) _ rfl
      have f6 := hrf.cell k hlt 6 (by omega) _ rfl
      have f7 := hrf.cell k hlt 7 (by omega) _ rfl
      have f8 := hrf.cell k hlt 8 (by omega) _ rfl
      simp only [← Nat.add_assoc, Nat.add_zero] at f0 f1 f2 f3 f4 f5 f6 f7 f8
      have HT := hide (vals_take ks L fs (i + 1) k hlt)
      have hvl : ((fs.take k).map (fun f => Pv.valR ks L f (i + 1))).length = k := by rw [List.length_map, List.length_take]; omega
      clear hrf
      go_upto_region 5 with fail
      go_wp2_with fail
      refine (lvalue_any (HH.out.below O1.out.bl) HK.out fs[k] (HFO.out _ (List.getElem_mem hlt)) i hi).mono ?_
      rintro e w3 ⟨rfl, e3⟩
      have O3 := hide (O1.out.below e3)
      clear e3 f0 f1 f2 f3 f4 f5 f6 f7 f8 O1
      generalize Pv.valR ks L fs[k] (i + 1) = vx at *
      generalize (fs.take k).map (fun f => Pv.valR ks L f (i + 1)) = vsl at *
      rw [vv_agg]
      go_upto_region 6 with fail
      have D3 := hide ((Below.refl w3.heap.size w3).alloc (Nat.le_refl _) (.cells #[.bool vx.isSome, .int .i64 (vx.getD 0)] 52))
      have D4 := hide (heap_alloc_new w3 (.cells #[.bool vx.isSome, .int .i64 (vx.getD 0)] 52))
      generalize w3.alloc (.cells #[.bool vx.isSome, .int .i64 (vx.getD 0)] 52) = w4 at *
      have O4 := hide (O3.out.below D3.out)
      have x0 : w4.cell? ⟨w3.heap.size, 0, none⟩ = some (.bool vx.isSome) := cell_of_heap D4.out 0
      have x1 : w4.cell? ⟨w3.heap.size, 1, none⟩ = some (.int .i64 (vx.getD 0)) := cell_of_heap D4.out 1
      have y3 : w4.cell? ⟨w.heap.size + 1, 3, none⟩ = some (.slice x n c) := O4.out.own.cell 3
      have hsz : w.heap.size + 1 < w4.heap.size := (Array.getElem?_eq_some_iff.1 O4.out.own).1
      go_wp2_with (at_builtin; refine wpList_append_own_at _ rfl (.tmp 33) (.tmp 35) 34 rfl (w.heap.size + 1 + 1) 52 i0 _ 2 16 Tryz.underlying34 hin hz0 hz1 hz2 rfl (by decide) _ vsl.length (rvals vsl) rfl (O4.out.vs.alloc _) _ 1 1 (vc vx) rfl rfl (World.news_of_block (heap_alloc_new _ _)) (vc_one vx) (by unfold maxLen; omega) (by omega) (by simp; omega) ?_; intro v8 w8 hown8 hgrow8 hnil8 hat8; obtain ⟨x8, n8, c8, rfl⟩ := own_sl hown8; obtain ⟨hb8, P8⟩ := O4.out.push ((Below.refl _ _).alloc (Nat.le_refl _) _) hgrow8 hown8; have z3 : w8.cell? ⟨w.heap.size + 1, 3, none⟩ = some (.slice x n c) := hb8.cell 3; have f8 := free_of_heap hb8 3; have HP := hide P8; clear hown8 hgrow8 hnil8 hat8 hb8 P8)
      go_roundw
      case rel => exact ⟨k + 1, by omega, by go_num, x8, n8, c8, by rw [HT.out]; exact HP.out⟩
      case measure => simp [intOf]; omega
    · have hlt' : ¬ (k : Int) < (fs.length : Int) := by omega
      obtain rfl : k = fs.length := by omega
      rw [List.take_length] at O1
      have a0 : wr.cell? ⟨w.heap.size + 1, 0, none⟩ = some (.int .i64 L[i].1) := O1.out.own.cell 0
      have a1 : wr.cell? ⟨w.heap.size + 1, 1, none⟩ = some (.int .i64 L[i].2.1) := O1.out.own.cell 1
      have a2 : wr.cell? ⟨w.heap.size + 1, 2, none⟩ = some (.int .i64 L[i].2.2) := O1.out.own.cell 2
      have a3 : wr.cell? ⟨w.heap.size + 1, 3, none⟩ = some (.slice x n c) := O1.out.own.cell 3
      have a4 : wr.cell? ⟨w.heap.size + 1, 4, none⟩ = some (.int .i64 1) := O1.out.own.cell 4
      have r0 : wr.cell? ⟨w.heap.size, 0, none⟩ = some (.int .i64 0) := O1.out.res.cell 0
      have r1 : wr.cell? ⟨w.heap.size, 1, none⟩ = some (.int .i64 0) := O1.out.res.cell 1
      have r2 : wr.cell? ⟨w.heap.size, 2, none⟩ = some (.int .i64 0) := O1.out.res.cell 2
      have r3 : wr.cell? ⟨w.heap.size, 3, none⟩ = some (.slice none 0 0) := O1.out.res.cell 3
      have r4 : wr.cell? ⟨w.heap.size, 4, none⟩ = some (.int .i64 0) := O1.out.res.cell 4
      have f0 := free_of_heap O1.out.res 0
      have f1 := free_of_heap O1.out.res 1
      have f2 := free_of_heap O1.out.res 2
      have f3 := free_of_heap O1.out.res 3
      have f4 := free_of_heap O1.out.res 4
      have S5 := hide (set5 O1.out.res (.int .i64 L[i].1) (.int .i64 L[i].2.1) (.int .i64 L[i].2.2) (.slice x n c) (.int .i64 1))
      have l0 := S5.out.cell 0
      have l1 := S5.out.cell 1
      have l2 := S5.out.cell 2
      have l3 := S5.out.cell 3
      have l4 := S5.out.cell 4
      have hlv : (fs.map (fun f => Pv.valR ks L f (i + 1))).length = fs.length := List.length_map _
      go_wp2
      refine bodyPost_ret (v := .agg #[.int .i64 L[i].1, .int .i64 L[i].2.1, .int .i64 L[i].2.2, .slice x n c, .int .i64 1]) (by simp [results, Tryz.results102, go_sem, l0, l1, l2, l3, l4]) rfl ⟨?_, _, rfl, ?_⟩
      · exact ((((O1.out.bl.setCell (p := ⟨w.heap.size, 0, none⟩) (Nat.le_refl _) _).setCell (p := ⟨w.heap.size, 1, none⟩) (Nat.le_refl _) _).setCell (p := ⟨w.heap.size, 2, none⟩) (Nat.le_refl _) _).setCell (p := ⟨w.heap.size, 3, none⟩) (Nat.le_refl _) _).setCell (p := ⟨w.heap.size, 4, none⟩) (Nat.le_refl _) _
      · have hne : ∀ j, (Value.slice x n c).ownBlock = some j → j ≠ w.heap.size := fun j hj => by have := (O1.out.vs.lt j hj).1; omega
        have hv := O1.out.vs
        rw [hlv] at hv
        exact own_base2 (own_set_far (own_set_far (own_set_far (own_set_far (own_set_far hv hne) hne) hne) hne) hne) (by omega)
set_option maxHeartbeats 1000000 in
theorem lshown_any {w : World} {g o : Nat} {x : Option Addr} {n c : Nat} (h : w.cell? ⟨g, o + 1, none⟩ = some (.slice x n c)) (vb vk vf : Value) (tp fr : Int) (ht : 0 ≤ tp) (ht2 : tp ≤ 1000) (hf : 0 ≤ fr) (hf2 : fr ≤ 1000) (has : Bool) (hsl : (∃ a b c, vb = .slice a b c) ∧ (∃ a b c, vk = .slice a b c) ∧ (∃ a b c, vf = .slice a b c)) :
    Calls Tryz.prog 101 #[.pointer (some ⟨g, o, none⟩), .agg #[vb, vk, vf, .bool has, .int .i64 tp, .int .i64 fr]] w fun e w' => e = .returned (.tuple #[.int .i64 (if has then Pv.cutA (fr + 1) else 1), .int .i64 (if has then Pv.cutB (fr + tp) n else n)]) ∧ Below w.heap.size w w' := by
  obtain ⟨⟨b1, b2, b3, rfl⟩, ⟨k1, k2, k3, rfl⟩, ⟨d1, d2, d3, rfl⟩⟩ := hsl
  have H0 := hide h
  have hgl := cell_lt h
  clear h
  go_enter Tryz.func101, Tryz.ntmps101
  go_upto_region 1 with fail
  have C0 := hide (K1.start w #[.slice b1 b2 b3, .slice k1 k2 k3, .slice d1 d2 d3, .bool has, .int .i64 tp, .int .i64 fr] 112)
  generalize w.alloc (.cells #[.slice b1 b2 b3, .slice k1 k2 k3, .slice d1 d2 d3, .bool has, .int .i64 tp, .int .i64 fr] 112) = w0 at *
  have q1 : w0.cell? ⟨g, o + 1, none⟩ = some (.slice x n c) := (C0.out.bl.cell (p := ⟨g, o + 1, none⟩) hgl).trans H0.out
  have a3 : w0.cell? ⟨w.heap.size, 3, none⟩ = some (.bool has) := cell_of_heap C0.out.a 3
  have a4 : w0.cell? ⟨w.heap.size, 4, none⟩ = some (.int .i64 tp) := cell_of_heap C0.out.a 4
  have a5 : w0.cell? ⟨w.heap.size, 5, none⟩ = some (.int .i64 fr) := cell_of_heap C0.out.a 5
  have HQ := hide q1
  cases has
  · go_wp2
    go_quiet (fail)
    go_wp2
    go_ret2
    exact ⟨rfl, below_drewM C0.out.bl _⟩
  · go_wp2_with fail
    refine (lcut_any HQ.out _ _).mono ?_
    rintro e w' ⟨rfl, hw'⟩
    obtain rfl := hw'.symm
    go_wp2
    go_ret2
    exact ⟨rfl, C0.out.bl⟩
end Go.Proofs.YtcoofnhdbejnpaaGreatDoor

/- Package tables: place, of. -/
namespace Go.Proofs.YtcoofnhdbejnpaaGreatDoor
open Go.RowKit
theorem RdC.len {w : World} {a : Option Addr} {n c : Nat} {l : List Pv.Chg} (h : RdC w (.slice a n c) l) : n = l.length := by
  rcases h.form with ⟨h, e⟩ | ⟨g, off, cap, h, _⟩
  · cases h; rw [e]; rfl
  · cases h; rfl
theorem RdC.form1 {w : World} {v : Value} {l : List Pv.Chg} (h : RdC w v l) (hl : 0 < l.length) : ∃ g off cap, v = .slice (some ⟨g, off, none⟩) l.length cap ∧ l.length ≤ cap := by
  rcases h.form with ⟨h, e⟩ | h
  · rw [e] at hl; simp at hl
  · exact h
set_option maxRecDepth 100000 in
set_option maxHeartbeats 1000000 in
theorem tplace_any {w : World} {b : Nat} {v : Value} {l : List Pv.Chg} (hb : w.heap[b]? = some (.cells #[v] 146 (0, 0))) (hv : RdC w v l) (hl : l.length ≤ 1000) (p u q : Int) :
    Calls Tryz.prog 99 #[.pointer (some ⟨b, 0, none⟩), .agg #[.int .i64 p, .int .i64 u, .int .i64 q]] w fun e w' => e = .returned (.int .i64 (Pv.placeF (p, u, q) l : Nat)) ∧ Below w.heap.size w w' := by
  have HV := hide hv
  have HB := hide hb
  have hblt := (Array.getElem?_eq_some_iff.1 hb).1
  obtain ⟨av, nv, cv, rfl⟩ : ∃ a n c, v = .slice a n c := by
    rcases hv.form with ⟨h, _⟩ | ⟨g, off, cap, h, _⟩
    · exact ⟨_, _, _, h⟩
    · exact ⟨_, _, _, h⟩
  obtain rfl := hv.len
  clear hv hb
  go_enter Tryz.func99, Tryz.ntmps99
  go_upto_region 1 with fail
  have L0 := hide (heap_alloc_new w (.cells #[.int .i64 p, .int .i64 u, .int .i64 q] 48))
  have B0 := hide ((Below.refl w.heap.size w).alloc (Nat.le_refl _) (.cells #[.int .i64 p, .int .i64 u, .int .i64 q] 48))
  generalize w.alloc (.cells #[.int .i64 p, .int .i64 u, .int .i64 q] 48) = w0 at *
  have hs0 : w.heap.size < w0.heap.size := (Array.getElem?_eq_some_iff.1 L0.out).1
  go_wp2_with fail
  go_loopw [5] (fun i wr => ∃ k : Nat, k ≤ l.length ∧ i = .int .i64 k ∧ Below w0.heap.size w0 wr ∧ Hid (∀ j (hj : j < l.length), j < k → Pv.lower l[j].1 (p, u, q) = true)) (fun i _ => l.length - (intOf i).toNat)
  case atStart => exact ⟨0, by omega, rfl, Below.refl _ _, fun j hj h => by omega⟩
  case round =>
    obtain ⟨k, hk, rfl, hb, HN⟩ := hrel
    have B1 := hide (B0.out.trans (hb.mono (Nat.le_of_lt hs0)))
    have q0 : wr.cell? ⟨b, 0, none⟩ = some (.slice av l.length cv) := by rw [B1.out.cell (p := ⟨b, 0, none⟩) hblt]; exact cell_of_heap HB.out 0
    have HL1 : Hid (wr.heap[w.heap.size]? = some (.cells #[.int .i64 p, .int .i64 u, .int .i64 q] 48 (0, 0))) := by show _ = _; rw [hb.block _ hs0]; exact L0.out
    have r0 : wr.cell? ⟨w.heap.size, 0, none⟩ = some (.int .i64 p) := cell_of_heap HL1.out 0
    have r1 : wr.cell? ⟨w.heap.size, 1, none⟩ = some (.int .i64 u) := cell_of_heap HL1.out 1
    have r2 : wr.cell? ⟨w.heap.size, 2, none⟩ = some (.int .i64 q) := cell_of_heap HL1.out 2
    by_cases hlt : k < l.length
    · obtain ⟨g, off, cap, e, hcap⟩ := HV.out.form1 (by omega)
      cases e
      have HV1 := hide (HV.out.below B1.out)
      obtain ⟨c0, c1, c2, c3⟩ := HV1.out.cell k hlt
      have hlt' : (k : Int) < (l.length : Int) := by omega
      go_upto_region 2 with fail
      go_still_tail 17, (by kernel_rfl)
      go_wp2_with fail
      refine (isAhead_any _ _ _ _ _ _ _).mono ?_
      rintro e w3 ⟨rfl, e3⟩
      replace e3 := undrew e3
      have B3 := hide (hb.trans (e3.mono hb.size))
      have BW3 := hide (B0.out.trans (B3.out.mono (Nat.le_of_lt hs0)))
      clear q0 r0 r1 r2 c0 c1 c2 c3 e3 hb
      cases hlw : Pv.lower (l[k].1.1, l[k].1.2.1, l[k].1.2.2) (p, u, q)
      · have HP := hide (Pv.placeF_is (p, u, q) l k (by omega) (fun j hj h => HN.out j hj h) (fun h => hlw))
        go_wp2
        go_ret
        exact ⟨by rw [HP.out]; rfl, BW3.out⟩
      · have HLW : Hid (Pv.lower l[k].1 (p, u, q) = true) := hlw
        go_wp2
        go_roundw
        case rel =>
          refine ⟨k + 1, by omega, by go_num, B3.out, fun j hj h => ?_⟩
          rcases Nat.lt_or_ge j k with h1 | h1
          · exact HN.out j hj h1
          · obtain rfl : j = k := by omega
            exact HLW.out
        case measure => simp [intOf]; omega
    · have hkn : ¬ (k : Int) < (l.length : Int) := by omega
      obtain rfl : k = l.length := by omega
      have HP := hide (Pv.placeF_is (p, u, q) l l.length (Nat.le_refl _) (fun j hj h => HN.out j hj h) (fun h => by omega))
      go_wp2
      go_quiet (fail)
      go_wp2
      go_ret
      exact ⟨by rw [HP.out]; rfl, below_drewM B1.out _⟩
set_option maxRecDepth 100000 in
set_option maxHeartbeats 1000000 in
theorem tof_any {w : World} {b : Nat} {v : Value} {l : List Pv.Chg} (hb : w.heap[b]? = some (.cells #[v] 146 (0, 0))) (hv : RdC w v l) (hl : l.length ≤ 1000) (hs : Pv.Srt l) (p u q : Int) :
    Calls Tryz.prog 77 #[.pointer (some ⟨b, 0, none⟩), .agg #[.int .i64 p, .int .i64 u, .int .i64 q]] w fun e w' => e = .returned (.int .i64 (Pv.sumOf l (p, u, q))) ∧ Below w.heap.size w w' := by
  have HV := hide hv
  have HB := hide hb
  have HS := hide (Pv.srt_of hs (p, u, q))
  obtain ⟨av, nv, cv, rfl⟩ : ∃ a n c, v = .slice a n c := by
    rcases hv.form with ⟨h, _⟩ | ⟨g, off, cap, h, _⟩
    · exact ⟨_, _, _, h⟩
    · exact ⟨_, _, _, h⟩
  obtain rfl := hv.len
  clear hv hb hs
  go_enter Tryz.func77, Tryz.ntmps77
  go_upto_region 1 with fail
  have C0 := hide (K1.start w #[.int .i64 p, .int .i64 u, .int .i64 q] 48)
  generalize w.alloc (.cells #[.int .i64 p, .int .i64 u, .int .i64 q] 48) = w0 at *
  have r0 : w0.cell? ⟨w.heap.size, 0, none⟩ = some (.int .i64 p) := cell_of_heap C0.out.a 0
  have r1 : w0.cell? ⟨w.heap.size, 1, none⟩ = some (.int .i64 u) := cell_of_heap C0.out.a 1
  have r2 : w0.cell? ⟨w.heap.size, 2, none⟩ = some (.int .i64 q) := cell_of_heap C0.out.a 2
  have HB0 : Hid (w0.heap[b]? = some (.cells #[.slice av l.length cv] 146 (0, 0))) := by
    show _ = _
    rw [C0.out.bl.block _ (Array.getElem?_eq_some_iff.1 HB.out).1]; exact HB.out
  go_wp2_with fail
  refine (tplace_any HB0.out (HV.out.below C0.out.bl) hl p u q).mono ?_
  rintro e w1 ⟨rfl, e1⟩
  have C1 := hide (C0.out.below e1)
  have HB1 : Hid (w1.heap[b]? = some (.cells #[.slice av l.length cv] 146 (0, 0))) := by
    show _ = _
    rw [e1.block _ (Array.getElem?_eq_some_iff.1 HB0.out).1]; exact HB0.out
  clear r0 r1 r2 e1
  have r0 : w1.cell? ⟨w.heap.size, 0, none⟩ = some (.int .i64 p) := cell_of_heap C1.out.a 0
  have r1 : w1.cell? ⟨w.heap.size, 1, none⟩ = some (.int .i64 u) := cell_of_heap C1.out.a 1
  have r2 : w1.cell? ⟨w.heap.size, 2, none⟩ = some (.int .i64 q) := cell_of_heap C1.out.a 2
  have q0 : w1.cell? ⟨b, 0, none⟩ = some (.slice av l.length cv) := cell_of_heap HB1.out 0
  have hpl := Pv.placeF_le (p, u, q) l
  generalize Pv.placeF (p, u, q) l = k at *
  by_cases hlt : k < l.length
  · have hlt' : (k : Int) < (l.length : Int) := by omega
    obtain ⟨g, off, cap, e, hcap⟩ := HV.out.form1 (by omega)
    cases e
    obtain ⟨c0, c1, c2, c3⟩ := (HV.out.below C1.out.bl).cell k hlt
    rw [List.getElem?_eq_getElem hlt] at HS
    simp only at HS
    by_cases he : l[k].1 = (p, u, q)
    · have h1 : l[k].1.1 = p := by rw [he]
      have h2 : l[k].1.2.1 = u := by rw [he]
      have h3 : l[k].1.2.2 = q := by rw [he]
      rw [if_pos he] at HS
      rw [h1] at c0
      rw [h2] at c1
      rw [h3] at c2
      clear he h1 h2 h3
      go_wp2
      go_quiet (fail)
      go_wp2
      go_ret
      exact ⟨by rw [HS.out]; rfl, below_drewM C1.out.bl _⟩
    · rw [if_neg he] at HS
      have hne : ¬ (l[k].1.1 = p ∧ l[k].1.2.1 = u ∧ l[k].1.2.2 = q) := fun ⟨h1, h2, h3⟩ => he (Prod.ext h1 (Prod.ext h2 h3))
      clear he
      generalize l[k].1.1 = p1 at *
      generalize l[k].1.2.1 = u1 at *
      generalize l[k].1.2.2 = q1 at *
      have hc : (p1 == p) = false ∨ ((p1 == p) = true ∧ (u1 == u) = false) ∨ ((p1 == p) = true ∧ (u1 == u) = true ∧ (q1 == q) = false) := by
        by_cases h1 : p1 = p
        · by_cases h2 : u1 = u
          · have h3 : ¬ q1 = q := fun h3 => hne ⟨h1, h2, h3⟩
            exact .inr (.inr ⟨by simp [h1], by simp [h2], by simp [h3]⟩)
          · exact .inr (.inl ⟨by simp [h1], by simp [h2]⟩)
        · exact .inl (by simp [h1])
      clear hne
      rcases hc with h1 | ⟨h1, h2⟩ | ⟨h1, h2, h3⟩
      all_goals
        go_wp2
        go_quiet (fail)
        go_wp2
        go_ret
        exact ⟨by rw [HS.out]; rfl, below_drewM C1.out.bl _⟩
  · have hlt' : ¬ (k : Int) < (l.length : Int) := by omega
    rw [List.getElem?_eq_none (by omega)] at HS
    go_wp2
    go_quiet (fail)
    go_wp2
    go_ret
    exact ⟨by rw [HS.out]; rfl, below_drewM C1.out.bl _⟩
end Go.Proofs.YtcoofnhdbejnpaaGreatDoor

