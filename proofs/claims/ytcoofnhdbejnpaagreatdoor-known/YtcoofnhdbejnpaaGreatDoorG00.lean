/- Plain functions: a list laid out by rank; rows and their order. -/
namespace Go.Proofs.YtcoofnhdbejnpaaGreatDoor
namespace Pk
end Pk
namespace Pq
end Pq
namespace Pr
end Pr
namespace Pv
end Pv
end Go.Proofs.YtcoofnhdbejnpaaGreatDoor
namespace Go.Proofs.YtcoofnhdbejnpaaGreatDoor
namespace Pv
/-- how many of these are ahead of x -/
def rank {α : Type} (lt : α → α → Bool) (l : List α) (x : α) : Nat := l.countP (fun y => lt y x)
/-- each laid at its rank -/
def place {α : Type} (lt : α → α → Bool) (z : α) (l : List α) : List α := l.foldl (fun acc x => acc.set (rank lt l x) x) (List.replicate l.length z)
theorem place_len {α : Type} (lt : α → α → Bool) (l : List α) : ∀ (m acc : List α), (m.foldl (fun acc x => acc.set (rank lt l x) x) acc).length = acc.length
  | [], _ => rfl
  | x :: m, acc => by rw [List.foldl_cons, place_len lt l m]; simp
/-- an order without ties among these -/
structure Order {α : Type} (lt : α → α → Bool) (l : List α) : Prop where
  irr : ∀ x ∈ l, lt x x = false
  tr : ∀ x ∈ l, ∀ y ∈ l, ∀ z ∈ l, lt x y = true → lt y z = true → lt x z = true
  tot : ∀ x ∈ l, ∀ y ∈ l, x ≠ y → lt x y = true ∨ lt y x = true
theorem countP_lt {α : Type} {p q : α → Bool} : ∀ {l : List α} {x : α}, x ∈ l → (∀ y ∈ l, p y = true → q y = true) → p x = false → q x = true → l.countP p < l.countP q
  | [], _, h, _, _, _ => by cases h
  | a :: l, x, hx, hpq, hp, hq => by
    have hle : l.countP p ≤ l.countP q := List.countP_mono_left (fun y hy => hpq y (by simp [hy]))
    rcases List.mem_cons.1 hx with rfl | hx
    · rw [List.countP_cons, List.countP_cons, hp, hq]; simp; omega
    · have ih := countP_lt hx (fun y hy => hpq y (by simp [hy])) hp hq
      rw [List.countP_cons, List.countP_cons]
      cases ha : p a
      · cases q a <;> simp <;> omega
      · rw [hpq a (by simp) ha]; simp; omega
theorem rank_lt {α : Type} {lt : α → α → Bool} {l : List α} (h : Order lt l) {x y : α} (hx : x ∈ l) (hy : y ∈ l) (hxy : lt x y = true) : rank lt l x < rank lt l y :=
  countP_lt hx (fun z hz hzx => h.tr z hz x hx y hy hzx hxy) (h.irr x hx) hxy
theorem rank_inj {α : Type} {lt : α → α → Bool} {l : List α} (h : Order lt l) {x y : α} (hx : x ∈ l) (hy : y ∈ l) (e : rank lt l x = rank lt l y) : x = y := by
  refine Classical.byContradiction fun hne => ?_
  rcases h.tot x hx y hy hne with h1 | h1
  · have := rank_lt h hx hy h1; omega
  · have := rank_lt h hy hx h1; omega
theorem rank_bd {α : Type} {lt : α → α → Bool} {l : List α} (h : Order lt l) {x : α} (hx : x ∈ l) : rank lt l x < l.length := by
  have : l.countP (fun y => lt y x) < l.countP (fun _ => true) := countP_lt hx (fun _ _ _ => rfl) (h.irr x hx) rfl
  simpa [rank] using this
theorem no_more : ∀ (n : Nat) (L : List Nat), L.Nodup → (∀ x ∈ L, x < n) → ¬ n < L.length
  | 0, L, _, hlt, hl => by
    cases L with
    | nil => simp at hl
    | cons a r => have := hlt a (by simp); omega
  | n + 1, L, hnd, hlt, hl => by
    have hsub : ∀ x ∈ L.erase n, x < n := fun x hx => by
      have h1 := hlt x (List.mem_of_mem_erase hx)
      have h2 : x ≠ n := fun e => by rw [e] at hx; exact (List.Nodup.not_mem_erase hnd) hx
      omega
    have hl2 : L.length - 1 ≤ (L.erase n).length := by
      by_cases hn : n ∈ L
      · rw [List.length_erase_of_mem hn]; omega
      · rw [List.erase_of_not_mem hn]; omega
    exact no_more n (L.erase n) (hnd.erase n) hsub (by omega)
/-- a list of different numbers below its length holds them all -/
theorem all_below : ∀ (n : Nat) (L : List Nat), L.Nodup → (∀ x ∈ L, x < n) → n ≤ L.length → ∀ i, i < n → i ∈ L
  | 0, _, _, _, _, i, hi => by omega
  | n + 1, L, hnd, hlt, hlen, i, hi => by
    have hn : n ∈ L := by
      refine Classical.byContradiction fun hno => ?_
      have hlt' : ∀ x ∈ L, x < n := fun x hx => by
        have := hlt x hx
        rcases Nat.lt_or_ge x n with h | h
        · exact h
        · exact absurd (show n ∈ L from (show x = n by omega) ▸ hx) hno
      exact no_more n L hnd hlt' (by omega)
    rcases Nat.lt_or_ge i n with h | h
    · have hsub : ∀ x ∈ L.erase n, x < n := fun x hx => by
        have h1 := hlt x (List.mem_of_mem_erase hx)
        have h2 : x ≠ n := fun e => by rw [e] at hx; exact (List.Nodup.not_mem_erase hnd) hx
        omega
      have hl2 : (L.erase n).length = L.length - 1 := List.length_erase_of_mem hn
      exact List.mem_of_mem_erase (all_below n (L.erase n) (hnd.erase n) hsub (by omega) i h)
    · rw [show i = n by omega]; exact hn
theorem ranks_nodup {α : Type} {lt : α → α → Bool} {l : List α} (h : Order lt l) (hnd : l.Nodup) : (l.map (rank lt l)).Nodup := by
  have key : ∀ m : List α, (∀ x ∈ m, x ∈ l) → m.Nodup → (m.map (rank lt l)).Nodup := by
    intro m
    induction m with
    | nil => intro _ _; simp
    | cons a m ih =>
      intro hm hn
      rw [List.nodup_cons] at hn
      rw [List.map_cons, List.nodup_cons]
      refine ⟨fun hmem => ?_, ih (fun x hx => hm x (by simp [hx])) hn.2⟩
      obtain ⟨y, hy, e⟩ := List.mem_map.1 hmem
      exact hn.1 (rank_inj h (hm y (by simp [hy])) (hm a (by simp)) e ▸ hy)
  exact key l (fun _ h => h) hnd
theorem place_get {α : Type} {lt : α → α → Bool} {l : List α} (h : Order lt l) (hnd : l.Nodup) : ∀ (m acc : List α), (∀ x ∈ m, x ∈ l) → m.Nodup → l.length ≤ acc.length → ∀ x ∈ l, (x ∈ m ∨ acc[rank lt l x]? = some x) → (m.foldl (fun acc x => acc.set (rank lt l x) x) acc)[rank lt l x]? = some x
  | [], acc, _, _, _, x, _, hor => by
    rcases hor with h | h
    · cases h
    · exact h
  | a :: m, acc, hm, hn, hlen, x, hx, hor => by
    rw [List.nodup_cons] at hn
    rw [List.foldl_cons]
    refine place_get h hnd m _ (fun y hy => hm y (by simp [hy])) hn.2 (by simpa using hlen) x hx ?_
    by_cases hxm : x ∈ m
    · exact .inl hxm
    right
    by_cases hxa : x = a
    · subst hxa
      have := rank_bd h hx
      rw [List.getElem?_set_self (by omega)]
    · rw [List.getElem?_set_ne (fun e => hxa (rank_inj h (hm a (by simp)) hx e).symm)]
      rcases hor with h1 | h1
      · rcases List.mem_cons.1 h1 with h2 | h2
        · exact absurd h2 hxa
        · exact absurd h2 hxm
      · exact h1
/-- laid by rank: the same elements, in order -/
theorem place_spec {α : Type} {lt : α → α → Bool} {l : List α} (z : α) (h : Order lt l) (hnd : l.Nodup) : (place lt z l).length = l.length ∧ (∀ x, x ∈ place lt z l ↔ x ∈ l) ∧ ∀ (i j : Nat) (x y : α), (place lt z l)[i]? = some x → (place lt z l)[j]? = some y → i < j → lt x y = true := by
  have hlen : (place lt z l).length = l.length := by unfold place; rw [place_len]; simp
  have hget : ∀ x ∈ l, (place lt z l)[rank lt l x]? = some x := fun x hx => place_get h hnd l _ (fun _ h => h) hnd (by simp) x hx (.inl hx)
  have hall : ∀ i, i < l.length → ∃ x ∈ l, rank lt l x = i := by
    intro i hi
    have := all_below l.length (l.map (rank lt l)) (ranks_nodup h hnd) (fun r hr => by obtain ⟨x, hx, rfl⟩ := List.mem_map.1 hr; exact rank_bd h hx) (by simp) i hi
    obtain ⟨x, hx, e⟩ := List.mem_map.1 this
    exact ⟨x, hx, e⟩
  have hat : ∀ i x, (place lt z l)[i]? = some x → x ∈ l ∧ rank lt l x = i := by
    intro i x hix
    have hi : i < l.length := by
      rcases Nat.lt_or_ge i l.length with q | q
      · exact q
      · rw [List.getElem?_eq_none (by omega)] at hix; cases hix
    obtain ⟨y, hy, rfl⟩ := hall i hi
    rw [hget y hy] at hix
    cases hix
    exact ⟨hy, rfl⟩
  refine ⟨hlen, fun x => ⟨fun hx => ?_, fun hx => List.mem_of_getElem? (hget x hx)⟩, ?_⟩
  · obtain ⟨i, hi, e⟩ := List.getElem_of_mem hx
    exact (hat i x (by rw [List.getElem?_eq_getElem hi, e])).1
  · intro i j x y hi hj hij
    obtain ⟨hx, rfl⟩ := hat i x hi
    obtain ⟨hy, rfl⟩ := hat j y hj
    have hne : x ≠ y := fun e => by rw [e] at hij; omega
    rcases h.tot x hx y hy hne with q | q
    · exact q
    · have := rank_lt h hy hx q; omega
/-- two lists in order that hold the same are one -/
theorem sorted_eq {α : Type} {lt : α → α → Bool} : ∀ {a b : List α}, (∀ x ∈ a, lt x x = false) → (∀ x ∈ a, ∀ y ∈ a, lt x y = true → lt y x = false) → a.Pairwise (fun x y => lt x y = true) → b.Pairwise (fun x y => lt x y = true) → (∀ x, x ∈ a ↔ x ∈ b) → a = b
  | [], [], _, _, _, _, _ => rfl
  | [], y :: b, _, _, _, _, h => by have := (h y).2 (by simp); cases this
  | x :: a, [], _, _, _, _, h => by have := (h x).1 (by simp); cases this
  | x :: a, y :: b, h0, h1, ha, hb, h => by
    rw [List.pairwise_cons] at ha hb
    have hxy : x = y := by
      rcases List.mem_cons.1 ((h x).1 (by simp)) with e | e
      · exact e
      · rcases List.mem_cons.1 ((h y).2 (by simp)) with e2 | e2
        · exact e2.symm
        · have q1 := hb.1 x e
          have q2 := ha.1 y e2
          have := h1 x (by simp) y (by simp [e2]) q2
          rw [q1] at this; cases this
    subst hxy
    have hni : ∀ z ∈ a, z ≠ x := fun z hz e => by have := ha.1 z hz; rw [e, h0 x (by simp)] at this; cases this
    have hni2 : ∀ z ∈ b, z ≠ x := fun z hz e => by have := hb.1 z hz; rw [e, h0 x (by simp)] at this; cases this
    congr 1
    refine sorted_eq (fun z hz => h0 z (by simp [hz])) (fun z hz w hw => h1 z (by simp [hz]) w (by simp [hw])) ha.2 hb.2 (fun z => ⟨fun hz => ?_, fun hz => ?_⟩)
    · rcases List.mem_cons.1 ((h z).1 (by simp [hz])) with e | e
      · exact absurd e (hni z hz)
      · exact e
    · rcases List.mem_cons.1 ((h z).2 (by simp [hz])) with e | e
      · exact absurd e (hni2 z hz)
      · exact e
end Pv
end Go.Proofs.YtcoofnhdbejnpaaGreatDoor

/- Plain functions: rows, changes, the table of them. -/
namespace Go.Proofs.YtcoofnhdbejnpaaGreatDoor
namespace Pv
abbrev R3 := Int × Int × Int
abbrev Chg := R3 × Int
/-- the order of rows -/
def lower (a b : R3) : Bool := decide (a.1 < b.1) || (a.1 == b.1 && (decide (a.2.1 < b.2.1) || (a.2.1 == b.2.1 && decide (a.2.2 < b.2.2))))
theorem lower_iff (a b : R3) : lower a b = true ↔ a.1 < b.1 ∨ (a.1 = b.1 ∧ (a.2.1 < b.2.1 ∨ (a.2.1 = b.2.1 ∧ a.2.2 < b.2.2))) := by
  simp [lower]
theorem lower_irr (a : R3) : lower a a = false := by
  rw [Bool.eq_false_iff]; intro h; rw [lower_iff] at h; omega
theorem lower_tr {a b c : R3} (h1 : lower a b = true) (h2 : lower b c = true) : lower a c = true := by
  rw [lower_iff] at *; omega
theorem lower_tot {a b : R3} (h : a ≠ b) : lower a b = true ∨ lower b a = true := by
  rw [lower_iff, lower_iff]
  have : ¬ (a.1 = b.1 ∧ a.2.1 = b.2.1 ∧ a.2.2 = b.2.2) := fun q => h (Prod.ext q.1 (Prod.ext q.2.1 q.2.2))
  omega
theorem lower_asym {a b : R3} (h : lower a b = true) : lower b a = false := by
  rw [Bool.eq_false_iff]; intro h2; have := lower_tr h h2; rw [lower_irr] at this; cases this
/-- the copies of a row, of all these changes together -/
def sumOf : List Chg → R3 → Int
  | [], _ => 0
  | c :: l, r => (if c.1 = r then c.2 else 0) + sumOf l r
theorem sumOf_app : ∀ (a b : List Chg) (r : R3), sumOf (a ++ b) r = sumOf a r + sumOf b r
  | [], b, r => by simp [sumOf]
  | c :: a, b, r => by rw [List.cons_append, sumOf, sumOf, sumOf_app a b r]; omega
theorem sumOf_none {l : List Chg} {r : R3} (h : ∀ c ∈ l, c.1 ≠ r) : sumOf l r = 0 := by
  induction l with
  | nil => rfl
  | cons c l ih => rw [sumOf, if_neg (h c (by simp)), ih (fun d hd => h d (by simp [hd]))]; rfl
/-- each row once, with its copies, if there are any; seen: the rows that stood ahead -/
def keepF (all : List Chg) (seen : List R3) : List Chg → List Chg
  | [] => []
  | c :: l => if !(seen.contains c.1) && decide (sumOf all c.1 ≠ 0) then (c.1, sumOf all c.1) :: keepF all (c.1 :: seen) l else keepF all (c.1 :: seen) l
def outF (all : List Chg) : List Chg := keepF all [] all
def lowC (a b : Chg) : Bool := lower a.1 b.1
def z0 : Chg := ((0, 0, 0), 0)
/-- the table of two lists of changes together -/
def tableF (a b : List Chg) : List Chg := place lowC z0 (outF (a ++ b))
theorem keepF_mem {all : List Chg} : ∀ (l : List Chg) (seen : List R3) (c : Chg), c ∈ keepF all seen l ↔ c.2 = sumOf all c.1 ∧ c.2 ≠ 0 ∧ c.1 ∉ seen ∧ ∃ d ∈ l, d.1 = c.1
  | [], seen, c => by simp [keepF]
  | d :: l, seen, c => by
    have ih := keepF_mem (all := all) l (d.1 :: seen) c
    rw [keepF]
    by_cases hd : (!(seen.contains d.1) && decide (sumOf all d.1 ≠ 0)) = true
    · rw [if_pos hd, List.mem_cons, ih]
      simp only [Bool.and_eq_true, Bool.not_eq_true', decide_eq_true_eq, List.contains_eq_mem, decide_eq_false_iff_not] at hd
      constructor
      · rintro (rfl | ⟨h1, h2, h3, e, he, h4⟩)
        · exact ⟨rfl, hd.2, hd.1, d, by simp, rfl⟩
        · exact ⟨h1, h2, fun q => h3 (by simp [q]), e, by simp [he], h4⟩
      · rintro ⟨h1, h2, h3, e, he, h4⟩
        by_cases hcd : c.1 = d.1
        · left; exact Prod.ext hcd (by rw [h1, hcd])
        · right
          refine ⟨h1, h2, by simp [hcd, h3], ?_⟩
          rcases List.mem_cons.1 he with rfl | he
          · exact absurd h4.symm hcd
          · exact ⟨e, he, h4⟩
    · rw [if_neg hd, ih]
      simp only [Bool.and_eq_true, Bool.not_eq_true', decide_eq_true_eq, List.contains_eq_mem, decide_eq_false_iff_not, not_and, Decidable.not_not] at hd
      constructor
      · rintro ⟨h1, h2, h3, e, he, h4⟩
        exact ⟨h1, h2, fun q => h3 (by simp [q]), e, by simp [he], h4⟩
      · rintro ⟨h1, h2, h3, e, he, h4⟩
        have hcd : c.1 ≠ d.1 := fun q => h2 (by rw [h1, q]; exact hd (q ▸ h3))
        refine ⟨h1, h2, by simp [hcd, h3], ?_⟩
        rcases List.mem_cons.1 he with rfl | he
        · exact absurd h4.symm hcd
        · exact ⟨e, he, h4⟩
theorem outF_mem (all : List Chg) (c : Chg) : c ∈ outF all ↔ c.2 = sumOf all c.1 ∧ c.2 ≠ 0 := by
  unfold outF
  rw [keepF_mem]
  constructor
  · rintro ⟨h1, h2, _⟩; exact ⟨h1, h2⟩
  · rintro ⟨h1, h2⟩
    refine ⟨h1, h2, by simp, Classical.byContradiction fun hno => ?_⟩
    exact h2 (h1.trans (sumOf_none (fun d hd e => hno ⟨d, hd, e⟩)))
theorem keepF_nodup {all : List Chg} : ∀ (l : List Chg) (seen : List R3), (keepF all seen l).Nodup
  | [], _ => by simp [keepF]
  | d :: l, seen => by
    rw [keepF]; split
    · rw [List.nodup_cons]
      refine ⟨fun h => ?_, keepF_nodup l _⟩
      exact ((keepF_mem l _ _).1 h).2.2.1 (by simp)
    · exact keepF_nodup l _
theorem outF_order (all : List Chg) : Order lowC (outF all) := by
  refine ⟨fun x _ => lower_irr x.1, fun x _ y _ z _ h1 h2 => lower_tr h1 h2, fun x hx y hy hne => ?_⟩
  refine lower_tot (fun e => hne (Prod.ext e ?_))
  rw [((outF_mem all x).1 hx).1, ((outF_mem all y).1 hy).1, e]
/-- a table: rows in their order, each with copies -/
structure IsTable (t : List Chg) : Prop where
  srt : t.Pairwise (fun x y => lower x.1 y.1 = true)
  nz : ∀ c ∈ t, c.2 ≠ 0
theorem tableF_mem (a b : List Chg) (c : Chg) : c ∈ tableF a b ↔ c.2 = sumOf a c.1 + sumOf b c.1 ∧ c.2 ≠ 0 := by
  unfold tableF
  rw [(place_spec z0 (outF_order (a ++ b)) (keepF_nodup _ _)).2.1, outF_mem, sumOf_app]
theorem tableF_is (a b : List Chg) : IsTable (tableF a b) := by
  refine ⟨?_, fun c hc => ((tableF_mem a b c).1 hc).2⟩
  rw [List.pairwise_iff_getElem]
  intro i j hi hj hij
  exact (place_spec z0 (outF_order (a ++ b)) (keepF_nodup _ _)).2.2 i j _ _ (List.getElem?_eq_getElem hi) (List.getElem?_eq_getElem hj) hij
/-- in a table a row stands once -/
theorem IsTable.sum {t : List Chg} (h : IsTable t) (r : R3) (n : Int) (hn : n ≠ 0) : sumOf t r = n ↔ (r, n) ∈ t := by
  induction t with
  | nil => simp [sumOf]; exact fun e => hn e.symm
  | cons c t ih =>
    have hs := h.srt
    rw [List.pairwise_cons] at hs
    have ht : IsTable t := ⟨hs.2, fun d hd => h.nz d (by simp [hd])⟩
    have hni : ∀ d ∈ t, d.1 ≠ c.1 := fun d hd e => by have := hs.1 d hd; rw [e, lower_irr] at this; cases this
    rw [sumOf]
    by_cases hc : c.1 = r
    · subst hc
      rw [if_pos rfl, sumOf_none hni, Int.add_zero]
      constructor
      · intro e; rw [← e]; exact List.mem_cons_self
      · intro hm
        rcases List.mem_cons.1 hm with e | e
        · exact (congrArg Prod.snd e).symm
        · exact absurd rfl (hni (c.1, n) e)
    · rw [if_neg hc, Int.zero_add, ih ht]
      constructor
      · intro hm; exact List.mem_cons_of_mem _ hm
      · intro hm
        rcases List.mem_cons.1 hm with e | e
        · exact absurd (congrArg Prod.fst e).symm hc
        · exact e
theorem IsTable.ext {a b : List Chg} (ha : IsTable a) (hb : IsTable b) (h : ∀ r, sumOf a r = sumOf b r) : a = b := by
  refine sorted_eq (lt := lowC) (fun x _ => lower_irr x.1) (fun x _ y _ q => lower_asym q) ha.srt hb.srt (fun x => ?_)
  have e : x = (x.1, x.2) := rfl
  constructor
  · intro hx
    have := (ha.sum x.1 x.2 (ha.nz x hx)).2 hx
    rw [h] at this
    exact (hb.sum x.1 x.2 (ha.nz x hx)).1 this
  · intro hx
    have := (hb.sum x.1 x.2 (hb.nz x hx)).2 hx
    rw [← h] at this
    exact (ha.sum x.1 x.2 (hb.nz x hx)).1 this
theorem tableF_sum (a b : List Chg) (r : R3) : sumOf (tableF a b) r = sumOf a r + sumOf b r := by
  by_cases h : sumOf a r + sumOf b r = 0
  · rw [h]
    refine sumOf_none (fun c hc e => ?_)
    have := (tableF_mem a b c).1 hc
    rw [e, h] at this
    exact this.2 this.1
  · rw [(tableF_is a b).sum r _ h]
    exact (tableF_mem a b _).2 ⟨rfl, h⟩
end Pv
end Go.Proofs.YtcoofnhdbejnpaaGreatDoor

/- Plain functions: which batches are refused. -/
namespace Go.Proofs.YtcoofnhdbejnpaaGreatDoor
namespace Pv
def between (n : Int) : Bool := decide (-1000 ≤ n) && decide (n ≤ 1000)
def rowOk (r : R3) : Bool := between r.1 && (between r.2.1 && between r.2.2)
def cntOk (n : Int) : Bool := !(n == 0) && (decide (-40 ≤ n) && decide (n ≤ 40))
/-- the first change that may not be: its error, its number -/
def scanF (i : Nat) : List Chg → Option (Int × Nat)
  | [] => none
  | c :: l => if rowOk c.1 = false then some (7, i) else if cntOk c.2 = false then some (8, i) else scanF (i + 1) l
/-- the first change of a row that has fewer copies than none -/
def lessF (t : List Chg) (i : Nat) : List Chg → Option Nat
  | [] => none
  | c :: l => if t.any (fun d => decide (d.1 = c.1) && decide (d.2 < 0)) then some i else lessF t (i + 1) l
def totalF (t : List Chg) : Int := (t.map (·.2)).sum
/-- why a batch may not be, and the number -/
def refusedF (t batch : List Chg) : Int × Nat :=
  if 50 < batch.length then (1, 0)
  else match scanF 0 batch with
    | some x => x
    | none => match lessF (tableF t batch) 0 batch with
      | some i => (9, i)
      | none => if 40 < totalF (tableF t batch) then (10, 0) else (0, 0)
theorem less_any {a b : List Chg} {r : R3} : (tableF a b).any (fun d => decide (d.1 = r) && decide (d.2 < 0)) = decide (sumOf a r + sumOf b r < 0) := by
  rw [Bool.eq_iff_iff, List.any_eq_true, decide_eq_true_eq]
  constructor
  · rintro ⟨d, hd, h⟩
    simp only [Bool.and_eq_true, decide_eq_true_eq] at h
    have := (tableF_mem a b d).1 hd
    rw [h.1] at this
    omega
  · intro h
    refine ⟨(r, sumOf a r + sumOf b r), (tableF_mem a b _).2 ⟨rfl, by show sumOf a r + sumOf b r ≠ 0; omega⟩, ?_⟩
    simpa using h
end Pv
end Go.Proofs.YtcoofnhdbejnpaaGreatDoor

/- Plain functions on bytes: what package queries' leaves answer. Nothing of the program is read here. -/
namespace Go.Proofs.YtcoofnhdbejnpaaGreatDoor
namespace Pq
abbrev Bytes := List UInt8
def isDig (c : UInt8) : Bool := decide ((48 : Int) ≤ (c.toNat : Int)) && decide ((c.toNat : Int) ≤ 57)
def isLet (c : UInt8) : Bool := decide ((97 : Int) ≤ (c.toNat : Int)) && decide ((c.toNat : Int) ≤ 122)
def isBlk (c : UInt8) : Bool := ((c.toNat : Int) == 32) || ((c.toNat : Int) == 10)
def isSgn (c : UInt8) : Bool := ((c.toNat : Int) == 40) || ((c.toNat : Int) == 41) || ((c.toNat : Int) == 44)
/-- where the row of bytes of kind p that goes on at place n ends -/
def rowEnd (p : UInt8 → Bool) (l : Bytes) (n : Nat) : Nat := n + ((l.drop n).takeWhile p).length
theorem rowEnd_stop {p : UInt8 → Bool} {l : Bytes} {n : Nat} (h : n < l.length) (hp : p l[n] = false) : rowEnd p l n = n := by
  unfold rowEnd; rw [List.drop_eq_getElem_cons h, List.takeWhile_cons]; simp [hp]
theorem rowEnd_step {p : UInt8 → Bool} {l : Bytes} {n : Nat} (h : n < l.length) (hp : p l[n] = true) : rowEnd p l n = rowEnd p l (n + 1) := by
  unfold rowEnd; rw [List.drop_eq_getElem_cons h, List.takeWhile_cons]; simp only [hp, if_true, List.length_cons]; omega
theorem rowEnd_end {p : UInt8 → Bool} {l : Bytes} {n : Nat} (h : l.length ≤ n) : rowEnd p l n = n := by
  simp [rowEnd, List.drop_eq_nil_of_le h]
theorem rowEnd_ge (p : UInt8 → Bool) (l : Bytes) (n : Nat) : n ≤ rowEnd p l n := by simp [rowEnd]
theorem rowEnd_le (p : UInt8 → Bool) (l : Bytes) (n : Nat) (h : n ≤ l.length) : rowEnd p l n ≤ l.length := by
  have : ((l.drop n).takeWhile p).length ≤ (l.drop n).length := (List.takeWhile_sublist _).length_le
  simp at this; unfold rowEnd; omega
/-- where the token ends that begins at n: n itself, if none does -/
def tokEnd (l : Bytes) (n : Nat) : Nat :=
  if h : n < l.length then
    if isSgn l[n] then n + 1
    else if isDig l[n] then (if rowEnd isDig l n - n > 2 then n else rowEnd isDig l n)
    else if isLet l[n] then (if rowEnd isLet l n - n > 8 then n else rowEnd isLet l n)
    else n
  else n
theorem tokEnd_ge (l : Bytes) (n : Nat) : n ≤ tokEnd l n := by
  unfold tokEnd
  have h1 := rowEnd_ge isDig l n; have h2 := rowEnd_ge isLet l n
  repeat' split
  all_goals omega
theorem tokEnd_le (l : Bytes) (n : Nat) (h : n ≤ l.length) : tokEnd l n ≤ l.length := by
  unfold tokEnd
  have h1 := rowEnd_le isDig l n h; have h2 := rowEnd_le isLet l n h
  repeat' split
  all_goals omega
/-- a row of digits as a number -/
def worth (l : Bytes) : Int := l.foldl (fun n c => n * 10 + ((c.toNat : Int) - 48)) 0
theorem worth_snoc (l : Bytes) (c : UInt8) : worth (l ++ [c]) = worth l * 10 + ((c.toNat : Int) - 48) := by simp [worth]
theorem worth_bd : ∀ (k : Nat) (l : Bytes), l.length ≤ k → (∀ c ∈ l, isDig c = true) → 0 ≤ worth l ∧ worth l + 1 ≤ 10 ^ k := by
  intro k
  induction k with
  | zero => intro l h _; have : l = [] := List.eq_nil_of_length_eq_zero (by omega); subst this; simp [worth]
  | succ k ih =>
    intro l h hd
    rcases List.eq_nil_or_concat l with rfl | ⟨m, c, rfl⟩
    · have : (0 : Int) < 10 ^ (k + 1) := Int.pow_pos (by omega)
      simp [worth]; omega
    · simp only [List.concat_eq_append, List.length_append, List.length_cons, List.length_nil] at h hd ⊢
      have h1 := ih m (by omega) (fun c hc => hd c (by simp [hc]))
      have h2 := hd c (by simp)
      simp only [isDig, Bool.and_eq_true, decide_eq_true_eq] at h2
      rw [worth_snoc, Int.pow_succ]; omega
structure Tok where
  text : Bytes
  at' : Nat
  num : Bool
/-- the tokens from place n on, and the place of a byte that begins none, or -1; with so many steps at most -/
def lexFuel (l : Bytes) : Nat → Nat → List Tok × Int
  | 0, _ => ([], -1)
  | f + 1, n =>
    if h : n < l.length then
      if isBlk l[n] then lexFuel l f (n + 1)
      else if tokEnd l n ≤ n then ([], (n : Int))
      else ({ text := (l.take (tokEnd l n)).drop n, at' := n, num := isDig l[n] } :: (lexFuel l f (tokEnd l n)).1, (lexFuel l f (tokEnd l n)).2)
    else ([], -1)
/-- the tokens from place n on, and the place of a byte that begins none, or -1 -/
def lexFrom (l : Bytes) (n : Nat) : List Tok × Int := lexFuel l (l.length + 1 - n) n
theorem lexFuel_out {l : Bytes} {n : Nat} (h : ¬ n < l.length) : ∀ f, lexFuel l f n = ([], -1)
  | 0 => rfl
  | _ + 1 => by rw [lexFuel, dif_neg h]
theorem lexFuel_same (l : Bytes) : ∀ (f g n : Nat), l.length < f + n → l.length < g + n → lexFuel l f n = lexFuel l g n
  | 0, g, n, h1, _ => by rw [lexFuel_out (by omega), lexFuel_out (by omega)]
  | f + 1, 0, n, _, h2 => by rw [lexFuel_out (by omega), lexFuel_out (by omega)]
  | f + 1, g + 1, n, h1, h2 => by
    rw [lexFuel, lexFuel]
    by_cases h : n < l.length
    · rw [dif_pos h, dif_pos h]
      by_cases hb : isBlk l[n] = true
      · rw [if_pos hb, if_pos hb]; exact lexFuel_same l f g (n + 1) (by omega) (by omega)
      · rw [if_neg hb, if_neg hb]
        by_cases he : tokEnd l n ≤ n
        · rw [if_pos he, if_pos he]
        · rw [if_neg he, if_neg he, lexFuel_same l f g (tokEnd l n) (by omega) (by omega)]
    · rw [dif_neg h, dif_neg h]
theorem lexFrom_end {l : Bytes} {n : Nat} (h : ¬ n < l.length) : lexFrom l n = ([], -1) := lexFuel_out h _
theorem lexFrom_blk {l : Bytes} {n : Nat} (h : n < l.length) (hb : isBlk l[n] = true) : lexFrom l n = lexFrom l (n + 1) := by
  unfold lexFrom
  rw [show l.length + 1 - n = (l.length - n) + 1 by omega, lexFuel, dif_pos h, if_pos hb]
  exact lexFuel_same l _ _ _ (by omega) (by omega)
theorem lexFrom_bad {l : Bytes} {n : Nat} (h : n < l.length) (hb : isBlk l[n] = false) (he : tokEnd l n ≤ n) : lexFrom l n = ([], (n : Int)) := by
  unfold lexFrom
  rw [show l.length + 1 - n = (l.length - n) + 1 by omega, lexFuel, dif_pos h, if_neg (by simp [hb]), if_pos he]
theorem lexFrom_tok {l : Bytes} {n : Nat} (h : n < l.length) (hb : isBlk l[n] = false) (he : n < tokEnd l n) :
    lexFrom l n = ({ text := (l.take (tokEnd l n)).drop n, at' := n, num := isDig l[n] } :: (lexFrom l (tokEnd l n)).1, (lexFrom l (tokEnd l n)).2) := by
  have e : lexFuel l (l.length - n) (tokEnd l n) = lexFrom l (tokEnd l n) := lexFuel_same l _ _ _ (by omega) (by omega)
  rw [← e]
  show lexFuel l (l.length + 1 - n) n = _
  rw [show l.length + 1 - n = (l.length - n) + 1 by omega, lexFuel, dif_pos h, if_neg (by simp [hb]), if_neg (by omega)]
theorem lexFrom_ind {l : Bytes} {motive : Nat → Prop} (case1 : ∀ n (h : n < l.length), isBlk l[n] = true → motive (n + 1) → motive n) (case2 : ∀ n (h : n < l.length), ¬ isBlk l[n] = true → tokEnd l n ≤ n → motive n)
    (case3 : ∀ n (h : n < l.length), ¬ isBlk l[n] = true → ¬ tokEnd l n ≤ n → motive (tokEnd l n) → motive n) (case4 : ∀ n, ¬ n < l.length → motive n) (n : Nat) : motive n := by
  have key : ∀ f n, l.length < f + n → motive n := by
    intro f
    induction f with
    | zero => intro n h; exact case4 n (by omega)
    | succ f ih =>
      intro n hn
      by_cases h : n < l.length
      · by_cases hb : isBlk l[n] = true
        · exact case1 n h hb (ih (n + 1) (by omega))
        · by_cases he : tokEnd l n ≤ n
          · exact case2 n h hb he
          · exact case3 n h hb he (ih _ (by omega))
      · exact case4 n h
  exact key (l.length + 1) n (by omega)
/-! the parser, as a machine on numbers -/
structure Edge where
  kind : Nat
  num : Int
structure Frame where
  kind : Nat
  num : Int
  frm : Edge
  to : Edge
structure Fn where
  kind : Nat
  col : Nat
  num : Int
  frame : Frame
structure PS where
  next : Nat
  failed : Bool
  by' : List Nat
  keys : List (Nat × Bool)
  funcs : List Fn
  hasTop : Bool
  top : Int
  frm : Int
  many : Int
  twice : Int
  arg : Int
def PS.fail (s : PS) : PS := { s with failed := true }
def PS.step (s : PS) : PS := { s with next := s.next + 1 }
/-- may the next token be taken as this text? -/
def takes (toks : List Tok) (t : Bytes) (s : PS) : Bool := !s.failed && (match toks[s.next]? with | some x => x.text == t | none => false)
def takeS (toks : List Tok) (t : Bytes) (s : PS) : PS := if takes toks t s then s.step else s
def wantS (toks : List Tok) (t : Bytes) (s : PS) : PS := if takes toks t s then s.step else s.fail
def placeS (toks : List Tok) (len : Nat) (s : PS) : Int := match toks[s.next]? with | some x => (x.at' : Int) | none => (len : Int)
def isNum (toks : List Tok) (s : PS) : Bool := !s.failed && (match toks[s.next]? with | some x => x.num | none => false)
def numS (toks : List Tok) (s : PS) : PS := if isNum toks s then s.step else s.fail
def numV (toks : List Tok) (s : PS) : Int := if isNum toks s then (match toks[s.next]? with | some x => worth x.text | none => 0) else 0
def colTxt : Nat → Bytes | 0 => [112] | 1 => [107] | _ => [118]
def kindTxt : Nat → Bytes
  | 0 => [110, 117, 109, 98, 101, 114] | 1 => [114, 97, 110, 107] | 2 => [100, 101, 110, 115, 101] | 3 => [116, 105, 108, 101]
  | 4 => [108, 97, 103] | 5 => [108, 101, 97, 100] | 6 => [99, 111, 117, 110, 116] | 7 => [115, 117, 109]
  | 8 => [109, 105, 110] | 9 => [109, 97, 120] | 10 => [102, 105, 114, 115, 116] | _ => [108, 97, 115, 116]
/-- the first of n texts that may be taken -/
def firstTake (toks : List Tok) (txt : Nat → Bytes) (n : Nat) (s : PS) : Option Nat := (List.range n).find? (fun j => takes toks (txt j) s)
theorem firstTake_some {toks : List Tok} {txt : Nat → Bytes} {n k : Nat} {s : PS} (hk : k < n) (h0 : ∀ j, j < k → takes toks (txt j) s = false) (h : takes toks (txt k) s = true) : firstTake toks txt n s = some k := by
  unfold firstTake
  rw [List.find?_eq_some_iff_append]
  refine ⟨h, List.range k, (List.range (n - k - 1)).map (· + (k + 1)), ?_, ?_⟩
  · have e : n = k + 1 + (n - k - 1) := by omega
    conv => lhs; rw [e, List.range_add, List.range_succ]
    simp [Nat.add_comm]
  · intro j hj; simpa using h0 j (by simpa using hj)
theorem firstTake_none {toks : List Tok} {txt : Nat → Bytes} {n : Nat} {s : PS} (h0 : ∀ j, j < n → takes toks (txt j) s = false) : firstTake toks txt n s = none := by
  unfold firstTake
  rw [List.find?_eq_none]
  intro j hj; simp [h0 j (by simpa using hj)]
def oneOfS (toks : List Tok) (txt : Nat → Bytes) (n : Nat) (s : PS) : PS := match firstTake toks txt n s with | some _ => s.step | none => s.fail
def oneOfV (toks : List Tok) (txt : Nat → Bytes) (n : Nat) (s : PS) : Nat := match firstTake toks txt n s with | some j => j | none => 0
def endS (toks : List Tok) (s : PS) : PS := if s.next < toks.length then s.fail else s
def twiceS (at' : Int) (s : PS) : PS := if s.twice = -1 then { s with twice := at' } else s
end Pq
end Go.Proofs.YtcoofnhdbejnpaaGreatDoor

/- Plain functions: the parser's greater steps. -/
namespace Go.Proofs.YtcoofnhdbejnpaaGreatDoor
namespace Pq
def tileS (toks : List Tok) (len : Nat) (s : PS) : PS := if numV toks s = 0 ∧ (numS toks s).arg = -1 then { numS toks s with arg := placeS toks len s } else numS toks s
def wStart : Bytes := [115, 116, 97, 114, 116]
def wEnd : Bytes := [101, 110, 100]
def wHere : Bytes := [104, 101, 114, 101]
def wBack : Bytes := [98, 97, 99, 107]
def wOn : Bytes := [111, 110]
def wAll : Bytes := [97, 108, 108]
def wPeers : Bytes := [112, 101, 101, 114, 115]
def wNear : Bytes := [110, 101, 97, 114]
def wTo : Bytes := [116, 111]
def edgeR (toks : List Tok) (s : PS) : Edge × PS :=
  if takes toks wStart s then (⟨0, 0⟩, s.step) else if takes toks wEnd s then (⟨1, 0⟩, s.step) else if takes toks wHere s then (⟨2, 0⟩, s.step)
  else if takes toks wBack (numS toks s) then (⟨3, numV toks s⟩, (numS toks s).step) else (⟨4, numV toks s⟩, wantS toks wOn (numS toks s))
def frameR (toks : List Tok) (s : PS) : Frame × PS :=
  if takes toks wAll s then (⟨0, 0, ⟨0, 0⟩, ⟨0, 0⟩⟩, s.step) else if takes toks wPeers s then (⟨1, 0, ⟨0, 0⟩, ⟨0, 0⟩⟩, s.step)
  else if takes toks wNear s then (⟨2, numV toks s.step, ⟨0, 0⟩, ⟨0, 0⟩⟩, numS toks s.step)
  else (⟨3, 0, (edgeR toks s).1, (edgeR toks (wantS toks wTo (edgeR toks s).2)).1⟩, (edgeR toks (wantS toks wTo (edgeR toks s).2)).2)
def wOpen : Bytes := [40]
def wClose : Bytes := [41]
def wComma : Bytes := [44]
def fr0 : Frame := ⟨0, 0, ⟨0, 0⟩, ⟨0, 0⟩⟩
def tileR (toks : List Tok) (len : Nat) (s : PS) : Fn × PS := (⟨3, 0, numV toks (wantS toks wOpen s), fr0⟩, wantS toks wClose (tileS toks len (wantS toks wOpen s)))
/-- behind the kind: ( COL , -/
def colComma (toks : List Tok) (s : PS) : PS := wantS toks wComma (oneOfS toks colTxt 3 (wantS toks wOpen s))
def lagR (toks : List Tok) (k : Nat) (s : PS) : Fn × PS := (⟨k, oneOfV toks colTxt 3 (wantS toks wOpen s), numV toks (colComma toks s), fr0⟩, wantS toks wClose (numS toks (colComma toks s)))
def overR (toks : List Tok) (k : Nat) (s : PS) : Fn × PS := (⟨k, oneOfV toks colTxt 3 (wantS toks wOpen s), 0, (frameR toks (colComma toks s)).1⟩, wantS toks wClose (frameR toks (colComma toks s)).2)
def funcR (toks : List Tok) (len : Nat) (s : PS) : Fn × PS :=
  if oneOfV toks kindTxt 12 s < 3 then (⟨oneOfV toks kindTxt 12 s, 0, 0, fr0⟩, oneOfS toks kindTxt 12 s)
  else if oneOfV toks kindTxt 12 s = 3 then tileR toks len (oneOfS toks kindTxt 12 s)
  else if oneOfV toks kindTxt 12 s < 6 then lagR toks (oneOfV toks kindTxt 12 s) (oneOfS toks kindTxt 12 s)
  else overR toks (oneOfV toks kindTxt 12 s) (oneOfS toks kindTxt 12 s)
theorem oneOfV_lt (toks : List Tok) (txt : Nat → Bytes) (n : Nat) (s : PS) (h : 0 < n) : oneOfV toks txt n s < n := by
  unfold oneOfV firstTake
  split
  · rename_i j hj
    have := List.mem_of_find?_eq_some hj
    simpa using this
  · exact h
end Pq
end Go.Proofs.YtcoofnhdbejnpaaGreatDoor

