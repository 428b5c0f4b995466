/- Plain mathematics: what the maker of queries writes. -/
import Derived.Test.YtcoofnhdbejnpaaDoorMb
namespace Go.Proofs.YtcoofnhdbejnpaaDoor
namespace Pk
open Pq (Bytes)
theorem Em.plain {ks : List Kd} {x y : TS} {I : List (Bytes × Bytes)} (h : Em ks x I y) : y.plain = plainOf x.plain ks := by
  induction ks, x, I, y, h using Em_ind with
  | nil hr hp => simpa [plainOf] using hp
  | cons hs ht hr hp _ ih => rw [ih, hp]; rfl
theorem Em.raw {ks : List Kd} {x y : TS} {I : List (Bytes × Bytes)} (h : Em ks x I y) : y.raw = x.raw ++ Pq.flat I := by
  induction ks, x, I, y, h using Em_ind with
  | nil hr hp => simpa [Pq.flat] using hr
  | cons hs ht hr hp _ ih => rw [ih, hr]; simp [Pq.flat]
theorem Wr.one {k : Kd} {ks : List Kd} {x y z : TS} (h : Wr [k] x y) (h2 : Wr ks y z) : Wr (k :: ks) x z := h.app h2
theorem desc_wr (l : Bytes) (keys : Bool) (x : TS) : ∃ d : Bool, (keys = false → d = false) ∧ Wr (if d then [.w Pq.wDesc] else []) x (descS l keys x) := by
  unfold descS
  repeat' split
  · exact ⟨true, fun h => by simp_all, (Wr.eat x l).app (Wr.word l _ _)⟩
  · exact ⟨false, fun _ => rfl, Wr.eat x l⟩
  · exact ⟨false, fun _ => rfl, Wr.nil x⟩
theorem cols_to (l : Bytes) (keys : Bool) (a : Nat) (ha : a < 3) (x : TS) : ∀ k, k ≤ 3 → ∃ cs : List (Nat × Bool), cs.map Prod.fst = (List.range k).map (fun i => (a + i) % 3) ∧ (keys = false → ∀ c ∈ cs, c.2 = false) ∧ Wr (kJoin (cs.map kCol)) x (colsTo l keys a k x)
  | 0, _ => ⟨[], rfl, (fun _ c hc => by cases hc), Wr.nil x⟩
  | k + 1, hk => by
    obtain ⟨cs, h1, h2, h3⟩ := cols_to l keys a ha x k (by omega)
    obtain ⟨d, hd, hw⟩ := desc_wr l keys (wordS l (colW (a + k)) (commaS l k (colsTo l keys a k x)))
    refine ⟨cs ++ [((a + k) % 3, d)], by simp [h1, List.range_succ], ?_, ?_⟩
    · intro hke c hc
      rcases List.mem_append.1 hc with hc | hc
      · exact h2 hke c hc
      · simp at hc; subst hc; exact hd hke
    · have hl : cs.length = k := by have := congrArg List.length h1; simpa using this
      have hword : Wr (kCol ((a + k) % 3, d)) (commaS l k (colsTo l keys a k x)) (colsTo l keys a (k + 1) x) := by
        have hk2 : kCol ((a + k) % 3, d) = .w (colW (a + k)) :: (if d then [.w Pq.wDesc] else []) := by rw [colW_eq _ (by omega)]; rfl
        rw [hk2]
        exact (Wr.word l (colW (a + k)) (commaS l k (colsTo l keys a k x))).one hw
      rw [List.map_append, List.map_cons, List.map_nil, kJoin_snoc]
      by_cases h0 : k = 0
      · have hcs : cs = [] := List.eq_nil_of_length_eq_zero (by omega)
        subst hcs
        subst h0
        exact hword
      · have hne : cs.map kCol ≠ [] := by intro e; have := congrArg List.length e; simp at this; rw [this] at hl; simp at hl; omega
        rw [if_neg hne]
        have hc : commaS l k (colsTo l keys a k x) = gluedS l [44] (colsTo l keys a k x) := by unfold commaS; rw [if_pos (by omega)]
        rw [hc] at hword
        exact h3.app ((Wr.glued l [44] _).one hword)
structure GoodCols (cs : List (Nat × Bool)) : Prop where
  ne : cs ≠ []
  nodup : (cs.map Prod.fst).Nodup
  lt : ∀ c ∈ cs, c.1 < 3
theorem cols_wr (l : Bytes) (keys : Bool) (x : TS) : ∃ cs : List (Nat × Bool), GoodCols cs ∧ (keys = false → ∀ c ∈ cs, c.2 = false) ∧ Wr (kJoin (cs.map kCol)) x (colsS l keys x) := by
  have ha := nxt_lt l x.a 3 (by omega)
  have hn := nxt_lt l (adv l x.a) 3 (by omega)
  obtain ⟨cs, h1, h2, h3⟩ := cols_to l keys (nxt l x.a 3) ha ((x.eat l).eat l) (1 + nxt l (adv l x.a) 3) (by omega)
  refine ⟨cs, ⟨?_, ?_, ?_⟩, h2, ?_⟩
  · intro e; rw [e] at h1; have := congrArg List.length h1; simp at this; omega
  · rw [h1]
    generalize nxt l x.a 3 = a at ha
    generalize nxt l (adv l x.a) 3 = n at hn
    have hall : ∀ a : Fin 3, ∀ n : Fin 3, ((List.range (1 + n.val)).map (fun i => (a.val + i) % 3)).Nodup := by decide
    exact hall ⟨a, ha⟩ ⟨n, hn⟩
  · intro c hc
    have hm : c.1 ∈ cs.map Prod.fst := List.mem_map_of_mem hc
    rw [h1] at hm
    obtain ⟨i, _, e⟩ := List.mem_map.1 hm
    omega
  · exact ((Wr.eat x l).app (Wr.eat _ l)).app h3
structure GoodEdge (e : Pq.Edge) : Prop where
  kind : e.kind < 5
  zero : e.kind < 3 → e.num = 0
  num : Pq.goodNum e.num
theorem edge_wr (l : Bytes) (x : TS) : ∃ e : Pq.Edge, GoodEdge e ∧ Wr (kEdge e) x (edgeS l x) := by
  have hk := nxt_lt l x.a 5 (by omega)
  have hn := nxt_lt l (adv l x.a) 5 (by omega)
  unfold edgeS
  generalize nxt l x.a 5 = k at *
  generalize nxt l (adv l x.a) 5 = n at *
  split
  · rename_i h3
    refine ⟨⟨k, 0⟩, ⟨hk, fun _ => rfl, ⟨by simp, by simp⟩⟩, ?_⟩
    have := (Wr.eat x l).app (Wr.word l (edgeW k) (x.eat l))
    match k, h3 with
    | 0, _ => exact this
    | 1, _ => exact this
    | 2, _ => exact this
  · rename_i h3
    refine ⟨⟨k, n⟩, ⟨hk, fun h => absurd h h3, ⟨by simp, by simp; omega⟩⟩, ?_⟩
    have := (((Wr.eat x l).app (Wr.eat _ l)).app (Wr.number l n true _)).app (Wr.word l (edgeW k) _)
    match k, hk, h3 with
    | 3, _, _ => exact this
    | 4, _, _ => exact this
    | 0, _, h3 => exact absurd (by omega) h3
    | 1, _, h3 => exact absurd (by omega) h3
    | 2, _, h3 => exact absurd (by omega) h3
def e0 : Pq.Edge := ⟨0, 0⟩
def GoodFrame (f : Pq.Frame) : Prop := ∀ M : Pq.Frame → Prop, (M ⟨0, 0, e0, e0⟩) → (M ⟨1, 0, e0, e0⟩) → (∀ (n : Nat), n < 100 → M ⟨2, n, e0, e0⟩) → (∀ (a : Pq.Edge) (b : Pq.Edge), GoodEdge a → GoodEdge b → M ⟨3, 0, a, b⟩) → M f
theorem GoodFrame.all  : GoodFrame ⟨0, 0, e0, e0⟩ := fun _ r0 _ _ _ => r0 
theorem GoodFrame.peers  : GoodFrame ⟨1, 0, e0, e0⟩ := fun _ _ r1 _ _ => r1 
theorem GoodFrame.near (n : Nat) (h : n < 100) : GoodFrame ⟨2, n, e0, e0⟩ := fun _ _ _ r2 _ => r2 n h
theorem GoodFrame.between (a : Pq.Edge) (b : Pq.Edge) (ha : GoodEdge a) (hb : GoodEdge b) : GoodFrame ⟨3, 0, a, b⟩ := fun _ _ _ _ r3 => r3 a b ha hb
theorem GoodFrame_ind {motive : (f : Pq.Frame) → GoodFrame f → Prop} (all : motive ⟨0, 0, e0, e0⟩ GoodFrame.all) (peers : motive ⟨1, 0, e0, e0⟩ GoodFrame.peers) (near : ∀ (n : Nat) (h : n < 100), motive ⟨2, n, e0, e0⟩ (GoodFrame.near n h)) (between : ∀ (a : Pq.Edge) (b : Pq.Edge) (ha : GoodEdge a) (hb : GoodEdge b), motive ⟨3, 0, a, b⟩ (GoodFrame.between a b ha hb)) (f : Pq.Frame) (h : GoodFrame f) : motive f h := by
  obtain ⟨_, q⟩ := h (fun f => ∃ h : GoodFrame f, motive f h) ⟨_, all⟩ ⟨_, peers⟩ (fun n h => ⟨_, near n h⟩) (fun a b ha hb => ⟨_, between a b ha hb⟩)
  exact q
theorem frame_wr (l : Bytes) (x : TS) : ∃ f : Pq.Frame, GoodFrame f ∧ Wr (kFrame f) x (frameS l x) := by
  unfold frameS
  repeat' split
  · exact ⟨_, .all, (Wr.eat x l).app (Wr.word l Pq.wAll _)⟩
  · exact ⟨_, .peers, ((Wr.eat x l).app (Wr.eat _ l)).app (Wr.word l Pq.wPeers _)⟩
  · have hn := nxt_lt l (wordS l Pq.wNear (((x.eat l).eat l).eat l)).a 20 (by omega)
    refine ⟨_, .near (nxt l (wordS l Pq.wNear (((x.eat l).eat l).eat l)).a 20) (by omega), ?_⟩
    exact (((Wr.eat x l).app (Wr.eat _ l)).app (Wr.eat _ l)).app ((Wr.word l Pq.wNear _).one ((Wr.eat _ l).app (Wr.number l _ true _)))
  · obtain ⟨a, ha, wa⟩ := edge_wr l (((x.eat l).eat l).eat l)
    obtain ⟨b, hb, wb⟩ := edge_wr l (wordS l Pq.wTo (edgeS l (((x.eat l).eat l).eat l)))
    exact ⟨_, .between a b ha hb, (((Wr.eat x l).app (Wr.eat _ l)).app (Wr.eat _ l)).app (wa.app ((Wr.word l Pq.wTo _).one wb))⟩
def GoodFn (f : Pq.Fn) : Prop := ∀ M : Pq.Fn → Prop, (∀ (k : Nat), k < 3 → M ⟨k, 0, 0, Pq.fr0⟩) → (∀ (n : Nat), n < 100 → 0 < n → M ⟨3, 0, n, Pq.fr0⟩) → (∀ (k : Nat) (c : Nat) (n : Nat), (k = 4 ∨ k = 5) → c < 3 → n < 100 → M ⟨k, c, n, Pq.fr0⟩) → (∀ (k : Nat) (c : Nat) (f : Pq.Frame), 6 ≤ k → k < 12 → c < 3 → GoodFrame f → M ⟨k, c, 0, f⟩) → M f
theorem GoodFn.plain (k : Nat) (h : k < 3) : GoodFn ⟨k, 0, 0, Pq.fr0⟩ := fun _ r0 _ _ _ => r0 k h
theorem GoodFn.tile (n : Nat) (h : n < 100) (h0 : 0 < n) : GoodFn ⟨3, 0, n, Pq.fr0⟩ := fun _ _ r1 _ _ => r1 n h h0
theorem GoodFn.lag (k : Nat) (c : Nat) (n : Nat) (hk : (k = 4 ∨ k = 5)) (hc : c < 3) (h : n < 100) : GoodFn ⟨k, c, n, Pq.fr0⟩ := fun _ _ _ r2 _ => r2 k c n hk hc h
theorem GoodFn.over (k : Nat) (c : Nat) (f : Pq.Frame) (h6 : 6 ≤ k) (hk : k < 12) (hc : c < 3) (hf : GoodFrame f) : GoodFn ⟨k, c, 0, f⟩ := fun _ _ _ _ r3 => r3 k c f h6 hk hc hf
theorem GoodFn_ind {motive : (f : Pq.Fn) → GoodFn f → Prop} (plain : ∀ (k : Nat) (h : k < 3), motive ⟨k, 0, 0, Pq.fr0⟩ (GoodFn.plain k h)) (tile : ∀ (n : Nat) (h : n < 100) (h0 : 0 < n), motive ⟨3, 0, n, Pq.fr0⟩ (GoodFn.tile n h h0)) (lag : ∀ (k : Nat) (c : Nat) (n : Nat) (hk : (k = 4 ∨ k = 5)) (hc : c < 3) (h : n < 100), motive ⟨k, c, n, Pq.fr0⟩ (GoodFn.lag k c n hk hc h)) (over : ∀ (k : Nat) (c : Nat) (f : Pq.Frame) (h6 : 6 ≤ k) (hk : k < 12) (hc : c < 3) (hf : GoodFrame f), motive ⟨k, c, 0, f⟩ (GoodFn.over k c f h6 hk hc hf)) (f : Pq.Fn) (h : GoodFn f) : motive f h := by
  obtain ⟨_, q⟩ := h (fun f => ∃ h : GoodFn f, motive f h) (fun k h => ⟨_, plain k h⟩) (fun n h h0 => ⟨_, tile n h h0⟩) (fun k c n hk hc h => ⟨_, lag k c n hk hc h⟩) (fun k c f h6 hk hc hf => ⟨_, over k c f h6 hk hc hf⟩)
  exact q
theorem colArg_wr (l : Bytes) (x : TS) : ∃ c, c < 3 ∧ Wr [.g [40], .g (Pq.colTxt c), .g [44]] x (colArg l x) := by
  have hn := nxt_lt l (gluedS l [40] x).a 3 (by omega)
  refine ⟨nxt l (gluedS l [40] x).a 3, hn, ?_⟩
  have := (Wr.glued l [40] x).one ((Wr.eat _ l).app ((Wr.glued l (colW (nxt l (gluedS l [40] x).a 3)) _).one (Wr.glued l [44] _)))
  rw [colW_eq _ (by omega), Nat.mod_eq_of_lt hn] at this
  unfold colArg
  rw [colW_eq _ (by omega), Nat.mod_eq_of_lt hn]
  exact this
theorem fun_wr (l : Bytes) (x : TS) : ∃ f : Pq.Fn, GoodFn f ∧ Wr (kFn f) x (funS l x) := by
  have hk := nxt_lt l x.a 12 (by omega)
  have hy := (Wr.eat x l).app (Wr.word l (Pq.kindTxt (nxt l x.a 12)) (x.eat l))
  unfold funS
  simp only
  generalize nxt l x.a 12 = k at *
  generalize wordS l (Pq.kindTxt k) (x.eat l) = y at *
  repeat' split
  · rename_i h3
    exact ⟨_, .plain k h3, by simpa [kFn, h3] using hy⟩
  · rename_i h3 h4
    subst h4
    have hn := nxt_lt l (gluedS l [40] y).a 6 (by omega)
    refine ⟨_, .tile (1 + nxt l (gluedS l [40] y).a 6) (by omega) (by omega), ?_⟩
    have := hy.app ((Wr.glued l [40] y).one ((Wr.eat _ l).app ((Wr.number l (1 + nxt l (gluedS l [40] y).a 6) false _).one (Wr.glued l [41] _))))
    exact this
  · rename_i h3 h4 h6
    obtain ⟨c, hc, wc⟩ := colArg_wr l y
    have hn := nxt_lt l (colArg l y).a 4 (by omega)
    refine ⟨_, .lag k c (nxt l (colArg l y).a 4) (by omega) hc (by omega), ?_⟩
    have := hy.app (wc.app ((Wr.eat _ l).app ((Wr.number l (nxt l (colArg l y).a 4) true _).one (Wr.glued l [41] _))))
    simpa [kFn, h3, h4, h6, lagS] using this
  · rename_i h3 h4 h6
    obtain ⟨c, hc, wc⟩ := colArg_wr l y
    obtain ⟨f, hf, wf⟩ := frame_wr l (colArg l y)
    refine ⟨_, .over k c f (by omega) hk hc hf, ?_⟩
    have := hy.app (wc.app (wf.app (Wr.glued l [41] _)))
    simpa [kFn, h3, h4, h6] using this
theorem funs_to (l : Bytes) (x : TS) : ∀ k, ∃ fs : List Pq.Fn, fs.length = k ∧ (∀ f ∈ fs, GoodFn f) ∧ Wr (kJoin (fs.map kFn)) x (funsTo l k x)
  | 0 => ⟨[], rfl, (fun c hc => by cases hc), Wr.nil x⟩
  | k + 1 => by
    obtain ⟨fs, hl, hg, hw⟩ := funs_to l x k
    obtain ⟨f, hf, wf⟩ := fun_wr l (commaS l k (funsTo l k x))
    refine ⟨fs ++ [f], by simp [hl], ?_, ?_⟩
    · intro g hg'
      rcases List.mem_append.1 hg' with h | h
      · exact hg g h
      · simp at h; subst h; exact hf
    · rw [List.map_append, List.map_cons, List.map_nil, kJoin_snoc]
      by_cases h0 : k = 0
      · have hfs : fs = [] := List.eq_nil_of_length_eq_zero (by omega)
        subst hfs
        subst h0
        exact wf
      · have hne : fs.map kFn ≠ [] := by intro e; have := congrArg List.length e; simp at this; rw [this] at hl; simp at hl; omega
        rw [if_neg hne]
        have hc : commaS l k (funsTo l k x) = gluedS l [44] (funsTo l k x) := by unfold commaS; rw [if_pos (by omega)]
        have e : funsTo l (k + 1) x = funS l (commaS l k (funsTo l k x)) := rfl
        rw [e]
        rw [hc] at wf ⊢
        exact hw.app ((Wr.glued l [44] _).one wf)
end Pk
end Go.Proofs.YtcoofnhdbejnpaaDoor
