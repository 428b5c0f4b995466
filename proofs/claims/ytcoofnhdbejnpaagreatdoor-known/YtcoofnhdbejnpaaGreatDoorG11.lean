/- Plain functions: FUNCs over a line in order: peers stand side by side; a frame is a stretch of the line; tiles by division. -/
import Derived.Test.YtcoofnhdbejnpaaGreatDoorG05
namespace Go.Proofs.YtcoofnhdbejnpaaGreatDoor
namespace Pv
open Pq Pr
def peersP (ks : List (Nat × Bool)) (a b : R3) : Bool := ks.all (fun k => decide (colV k.1 a = colV k.1 b))
theorem peersP_iff (ks : List (Nat × Bool)) (a b : R3) : peersP ks a b = true ↔ eqK ks a b := by simp [peersP, eqK]
/-- does a group of peers end at a position -/
def endsP (ks : List (Nat × Bool)) (l : List R3) (at' : Int) : Bool := if at' < 1 ∨ (l.length : Int) ≤ at' then true else match l[(at' - 1).toNat]?, l[at'.toNat]? with | some a, some b => !(peersP ks a b) | _, _ => true
theorem endsP_in (ks : List (Nat × Bool)) (l : List R3) (j : Nat) (h : j + 1 < l.length) : endsP ks l (j + 1 : Nat) = !(peersP ks l[j] l[j + 1]) := by
  unfold endsP
  rw [if_neg (by omega)]
  have e1 : ((((j + 1 : Nat) : Int) - 1).toNat) = j := by omega
  have e2 : (((j + 1 : Nat) : Int).toNat) = j + 1 := by omega
  rw [e1, e2, List.getElem?_eq_getElem (show j < l.length by omega), List.getElem?_eq_getElem h]
theorem endsP_out (ks : List (Nat × Bool)) (l : List R3) (i : Int) (h : i < 1 ∨ (l.length : Int) ≤ i) : endsP ks l i = true := by unfold endsP; rw [if_pos h]
theorem srt_le {ks : List (Nat × Bool)} {l : List R3} (h : SrtL ks l) {i j : Nat} (hj : j < l.length) (hij : i ≤ j) : beforeK ks l[j] l[i] = false := by
  rcases Nat.lt_or_eq_of_le hij with q | q
  · have := (List.pairwise_iff_getElem.1 h) i j (by omega) hj q
    rw [Bool.eq_false_iff] at this ⊢
    exact fun e => this ((aheadP_iff _ _ _).2 (.inl e))
  · subst q; exact bK_eq (fun _ _ => rfl)
theorem ends_before {ks : List (Nat × Bool)} {l : List R3} (h : SrtL ks l) {j : Nat} (hj : j + 1 < l.length) (he : endsP ks l (j + 1 : Nat) = true) : beforeK ks l[j] l[j + 1] = true := by
  rw [endsP_in ks l j hj] at he
  cases hb : beforeK ks l[j] l[j + 1] with
  | true => rfl
  | false =>
    have := bK_tot hb (srt_le h hj (by omega))
    rw [(peersP_iff _ _ _).2 this] at he; cases he
theorem ends_peers {ks : List (Nat × Bool)} {l : List R3} : ∀ (n i : Nat) (h : i + n < l.length), (∀ j, i < j → j ≤ i + n → endsP ks l (j : Nat) = false) → eqK ks l[i] l[i + n]
  | 0, i, _, _ => fun _ _ => rfl
  | n + 1, i, h, hj => by
    have ih := ends_peers (ks := ks) (l := l) n i (by omega) (fun j h1 h2 => hj j h1 (by omega))
    have := hj (i + n + 1) (by omega) (by omega)
    rw [endsP_in ks l (i + n) (by omega)] at this
    have h2 : peersP ks l[i + n] l[i + n + 1] = true := by simpa using this
    exact ih.trans ((peersP_iff _ _ _).1 h2)
/-- the first peer: as many stand ahead as are before it by the KEYs -/
theorem countP_split {α : Type} (p : α → Bool) (l : List α) (a : Nat) (ha : a ≤ l.length) (h1 : ∀ j (h : j < l.length), j < a → p l[j] = true) (h2 : ∀ j (h : j < l.length), a ≤ j → p l[j] = false) : l.countP p = a := by
  have e : l = l.take a ++ l.drop a := (List.take_append_drop a l).symm
  rw [e, List.countP_append]
  have c1 : (l.take a).countP p = (l.take a).length := by
    rw [List.countP_eq_length]
    intro x hx
    obtain ⟨j, hj, rfl⟩ := List.getElem_of_mem hx
    rw [List.length_take] at hj
    rw [List.getElem_take]
    exact h1 j (by omega) (by omega)
  have c2 : (l.drop a).countP p = 0 := by
    rw [List.countP_eq_zero]
    intro x hx
    obtain ⟨j, hj, rfl⟩ := List.getElem_of_mem hx
    rw [List.length_drop] at hj
    rw [List.getElem_drop, h2 (a + j) (by omega) (by omega)]; simp
  rw [c1, c2, List.length_take]; omega
theorem first_peer {ks : List (Nat × Bool)} {l : List R3} (h : SrtL ks l) {a i : Nat} (hi : i < l.length) (hai : a ≤ i) (he : endsP ks l (a : Nat) = true) (hm : ∀ j : Nat, a < j → j ≤ i → endsP ks l (j : Nat) = false) : (cp l).countP (fun y => beforeK ks y.1 l[i]) = a := by
  have e : (cp l).countP (fun y => beforeK ks y.1 l[i]) = l.countP (fun y => beforeK ks y l[i]) := by unfold cp; rw [List.countP_map]; rfl
  rw [e]
  have hpe : ∀ j (hj : j < l.length), a ≤ j → j ≤ i → eqK ks l[j] l[i] := fun j hj h1 h2 => by
    have := ends_peers (ks := ks) (l := l) (i - j) j (by omega) (fun k h3 h4 => hm k (by omega) (by omega))
    simp only [show j + (i - j) = i by omega] at this
    exact this
  refine countP_split _ l a (by omega) (fun j hj hja => ?_) (fun j hj haj => ?_)
  · obtain ⟨a', rfl⟩ : ∃ a', a = a' + 1 := ⟨a - 1, by omega⟩
    have hb := ends_before h (j := a') (by omega) he
    have hb2 : beforeK ks l[a'] l[i] = true := by rw [← bK_right (hpe (a' + 1) (by omega) (by omega) hai)]; exact hb
    cases hx : beforeK ks l[j] l[a'] with
    | true => exact bK_tr hx hb2
    | false => rw [bK_left (bK_tot hx (srt_le h (by omega) (by omega)))]; exact hb2
  · rcases Nat.lt_or_ge i j with q | q
    · exact srt_le h hj (by omega)
    · exact bK_eq (hpe j hj haj q)
/-- so many groups up to a position -/
def groupsN (ks : List (Nat × Bool)) (l : List R3) : Nat → Int
  | 0 => 1
  | k + 1 => groupsN ks l k + (if endsP ks l (k + 1 : Nat) then 1 else 0)
theorem groupsN_eq {ks : List (Nat × Bool)} {l : List R3} (h : SrtL ks l) : ∀ k, k < l.length → groupsN ks l k = groupsF ks ((cp l).take (k + 1))
  | 0, hk => by
    match l, hk with
    | x :: l, _ => simp [cp, groupsN, groupsF]
  | k + 1, hk => by
    have ih := groupsN_eq h k (by omega)
    have hl : (cp l).length = l.length := by simp [cp]
    rw [groups_take ks (cp l) k (by omega), groupsN, ih]
    have g1 : ((cp l)[k]'(by omega)).1 = l[k] := by simp [cp]
    have g2 : ((cp l)[k + 1]'(by omega)).1 = l[k + 1] := by simp [cp]
    rw [g1, g2]
    congr 1
    cases he : endsP ks l (k + 1 : Nat) with
    | true => rw [ends_before h hk he]
    | false =>
      rw [endsP_in ks l k hk] at he
      rw [bK_eq ((peersP_iff _ _ _).1 (by simpa using he))]
/-- the stretch of a line from the position a to b -/
def segR (l : List R3) (a b : Nat) : List R3 := (l.take b).drop (a - 1)
theorem inside_seg {ks : List (Nat × Bool)} {f : Frame} {n : Int} {x : R3} {i : Int} {a b : Nat} : ∀ (m : List R3) (k : Nat), (∀ j (h : j < m.length), withinF ks f n x m[j] i (k + j : Nat) = decide (a ≤ k + j ∧ k + j ≤ b)) → insideF ks f n x i k (cp m) = (m.take (b + 1 - k)).drop (a - k)
  | [], k, _ => by simp [cp, insideF]
  | y :: m, k, h => by
    have h0 := h 0 (by simp)
    have ih := inside_seg (ks := ks) (f := f) (n := n) (x := x) (i := i) (a := a) (b := b) m (k + 1) (fun j hj => by
      have := h (j + 1) (by simpa using hj)
      rw [show k + (j + 1) = k + 1 + j by omega] at this
      simpa using this)
    have e : insideF ks f n x i k (cp (y :: m)) = if withinF ks f n x y i k then y :: insideF ks f n x i (k + 1 : Nat) (cp m) else insideF ks f n x i (k + 1 : Nat) (cp m) := rfl
    have h0' : withinF ks f n x y i k = decide (a ≤ k ∧ k ≤ b) := h0
    rw [e, ih, h0']
    by_cases hk : a ≤ k ∧ k ≤ b
    · have e1 : b + 1 - k = b + 1 - (k + 1) + 1 := by omega
      have e2 : a - k = 0 := by omega
      have e3 : a - (k + 1) = 0 := by omega
      rw [e1, e2, e3, List.take_succ_cons]
      simp [hk]
    · simp only [hk, decide_false, Bool.false_eq_true, if_false]
      by_cases hb : b < k
      · rw [show b + 1 - k = 0 by omega, show b + 1 - (k + 1) = 0 by omega]; simp
      · have e1 : b + 1 - k = b + 1 - (k + 1) + 1 := by omega
        have e2 : a - k = a - (k + 1) + 1 := by omega
        rw [e1, e2, List.take_succ_cons, List.drop_succ_cons]
theorem inside_all {ks : List (Nat × Bool)} {f : Frame} {x : R3} {i : Int} {a b : Nat} {l : List R3} (h : ∀ j (h : j < l.length), withinF ks f l.length x l[j] i (j + 1 : Nat) = decide (a ≤ j + 1 ∧ j + 1 ≤ b)) : insideF ks f l.length x i 1 (cp l) = segR l a b := by
  have := inside_seg (ks := ks) (f := f) (n := l.length) (x := x) (i := i) (a := a) (b := b) l 1 (fun j hj => by rw [show 1 + j = j + 1 by omega]; exact h j hj)
  unfold segR
  simpa using this
theorem seg_succ (l : List R3) (a b : Nat) (ha : a ≤ b + 1) (hb : b < l.length) : segR l a (b + 1) = segR l a b ++ [l[b]] := by
  unfold segR
  rw [List.take_succ_eq_append_getElem hb, List.drop_append_of_le_length (by rw [List.length_take]; omega)]
theorem seg_none (l : List R3) (a b : Nat) (h : b < a) : segR l a b = [] := by
  unfold segR
  rw [List.drop_eq_nil_iff, List.length_take]; omega
theorem seg_len (l : List R3) (a b : Nat) (ha : 1 ≤ a) (hab : a ≤ b + 1) (hb : b ≤ l.length) : (segR l a b).length = b + 1 - a := by
  unfold segR
  rw [List.length_drop, List.length_take]; omega
theorem seg_head (l : List R3) (a b : Nat) (ha : 1 ≤ a) (hab : a ≤ b) (hb : b ≤ l.length) : ∃ q, segR l a b = l[a - 1]'(by omega) :: q := by
  unfold segR
  refine ⟨(l.take b).drop (a - 1 + 1), ?_⟩
  rw [List.drop_eq_getElem_cons (by rw [List.length_take]; omega), List.getElem_take]
/-- the frames -/
theorem frame_all {ks : List (Nat × Bool)} {f : Frame} {x : R3} {i : Int} {l : List R3} (hf : f.kind = 0) : insideF ks f l.length x i 1 (cp l) = segR l 1 l.length :=
  inside_all (fun j hj => by simp [withinF, hf]; omega)
theorem frame_peers {ks : List (Nat × Bool)} {f : Frame} {i' : Int} {l : List R3} (h : SrtL ks l) (hf : f.kind = 1) {b i : Nat} (hi : i < l.length) (hib : i < b) (hb : b ≤ l.length) (he : endsP ks l (b : Nat) = true) (hm : ∀ j : Nat, i < j → j < b → endsP ks l (j : Nat) = false) : insideF ks f l.length l[i] i' 1 (cp l) = segR l 1 b := by
  have hpe : ∀ j (hj : j < l.length), i ≤ j → j < b → eqK ks l[i] l[j] := fun j hj h1 h2 => by
    have := ends_peers (ks := ks) (l := l) (j - i) i (by omega) (fun k h3 h4 => hm k (by omega) (by omega))
    simp only [show i + (j - i) = j by omega] at this
    exact this
  refine inside_all (fun j hj => ?_)
  have e : withinF ks f l.length l[i] l[j] i' (j + 1 : Nat) = !(beforeK ks l[i] l[j]) := by unfold withinF; rw [hf]; simp
  rw [e]
  by_cases hjb : j < b
  · have : beforeK ks l[i] l[j] = false := by
      rcases Nat.lt_or_ge j i with q | q
      · exact srt_le h hi (by omega)
      · exact bK_eq (hpe j hj q hjb)
    rw [this]; simp; omega
  · obtain ⟨b', rfl⟩ : ∃ b', b = b' + 1 := ⟨b - 1, by omega⟩
    have hb1 := ends_before h (j := b') (by omega) he
    have hb2 : beforeK ks l[i] l[b' + 1] = true := by rw [bK_left (hpe b' (by omega) (by omega) (by omega))]; exact hb1
    have hb3 : beforeK ks l[i] l[j] = true := by
      cases hx : beforeK ks l[b' + 1] l[j] with
      | true => exact bK_tr hb2 hx
      | false => rw [← bK_right (bK_tot hx (srt_le h hj (by omega)))]; exact hb2
    rw [hb3]; simp; omega
/-- the column of the first KEY goes one way -/
theorem col0_mono {ks : List (Nat × Bool)} {l : List R3} (h : SrtL ks l) (hk : ks ≠ []) : (∀ i j (hi : i < l.length) (hj : j < l.length), i ≤ j → colV (col0 ks) l[i] ≤ colV (col0 ks) l[j]) ∨ (∀ i j (hi : i < l.length) (hj : j < l.length), i ≤ j → colV (col0 ks) l[j] ≤ colV (col0 ks) l[i]) := by
  match ks, hk with
  | (c, d) :: ks, _ =>
    have e0 : col0 ((c, d) :: ks) = c := rfl
    rw [e0]
    cases d with
    | false =>
      left
      intro i j hi hj hij
      have := srt_le h hj hij
      rw [beforeK] at this
      by_cases e : colV c l[j] = colV c l[i]
      · omega
      · rw [if_neg e] at this; simp at this; omega
    | true =>
      right
      intro i j hi hj hij
      have := srt_le h hj hij
      rw [beforeK] at this
      by_cases e : colV c l[j] = colV c l[i]
      · omega
      · rw [if_neg e] at this; simp at this; omega
def nearP (c : Nat) (m : Int) (x y : R3) : Bool := decide (colV c x - colV c y ≤ m) && decide (-(colV c x - colV c y) ≤ m)
/-- near, of two positions -/
def isNearP (ks : List (Nat × Bool)) (l : List R3) (m : Int) (a b : Int) : Bool := if a < 1 ∨ (l.length : Int) < a then false else match l[(a - 1).toNat]?, l[(b - 1).toNat]? with | some x, some y => nearP (col0 ks) m x y | _, _ => false
theorem isNearP_in (ks : List (Nat × Bool)) (l : List R3) (m : Int) (a b : Nat) (ha : a < l.length) (hb : b < l.length) : isNearP ks l m (a + 1 : Nat) (b + 1 : Nat) = nearP (col0 ks) m l[a] l[b] := by
  unfold isNearP
  rw [if_neg (by omega)]
  have e1 : ((((a + 1 : Nat) : Int) - 1).toNat) = a := by omega
  have e2 : ((((b + 1 : Nat) : Int) - 1).toNat) = b := by omega
  rw [e1, e2, List.getElem?_eq_getElem ha, List.getElem?_eq_getElem hb]
theorem nearP_symm (c : Nat) (m : Int) (x y : R3) : nearP c m x y = nearP c m y x := by
  unfold nearP
  rw [Bool.eq_iff_iff]; simp; omega
theorem frame_near {ks : List (Nat × Bool)} {f : Frame} {i' : Int} {l : List R3} (h : SrtL ks l) (hks : ks ≠ []) (hf : f.kind = 2) {a b i : Nat} (hi : i < l.length) (hai : a ≤ i) (hib : i < b) (hb : b ≤ l.length) (hn : 0 ≤ f.num)
    (ha : isNearP ks l f.num (a : Nat) (i + 1 : Nat) = false) (hma : ∀ j : Nat, a < j → j ≤ i → isNearP ks l f.num (j : Nat) (i + 1 : Nat) = true)
    (he : isNearP ks l f.num (b + 1 : Nat) (i + 1 : Nat) = false) (hmb : ∀ j : Nat, i + 1 < j → j ≤ b → isNearP ks l f.num (j : Nat) (i + 1 : Nat) = true) : insideF ks f l.length l[i] i' 1 (cp l) = segR l (a + 1) b := by
  refine inside_all (fun j hj => ?_)
  have e : withinF ks f l.length l[i] l[j] i' (j + 1 : Nat) = nearP (col0 ks) f.num l[j] l[i] := by
    rw [nearP_symm]; unfold withinF nearP; rw [hf]; simp
  rw [e]
  by_cases hin : a ≤ j ∧ j < b
  · have : nearP (col0 ks) f.num l[j] l[i] = true := by
      rcases Nat.lt_trichotomy j i with q | q | q
      · rw [← isNearP_in ks l f.num j i hj hi]; exact hma (j + 1) (by omega) (by omega)
      · subst q; unfold nearP; simp; omega
      · rw [← isNearP_in ks l f.num j i hj hi]; exact hmb (j + 1) (by omega) (by omega)
    rw [this]; simp; omega
  · have : nearP (col0 ks) f.num l[j] l[i] = false := by
      rcases Nat.lt_or_ge j a with q | q
      · obtain ⟨a', rfl⟩ : ∃ a', a = a' + 1 := ⟨a - 1, by omega⟩
        rw [isNearP_in ks l f.num a' i (by omega) hi] at ha
        unfold nearP at ha ⊢
        rw [Bool.eq_false_iff] at ha ⊢
        simp only [ne_eq, Bool.and_eq_true, decide_eq_true_eq] at ha ⊢
        rcases col0_mono h hks with hm | hm
        · have h1 := hm j a' hj (by omega) (by omega)
          have h2 := hm a' i (by omega) hi (by omega)
          omega
        · have h1 := hm j a' hj (by omega) (by omega)
          have h2 := hm a' i (by omega) hi (by omega)
          omega
      · have q2 : b ≤ j := by omega
        rw [isNearP_in ks l f.num b i (by omega) hi] at he
        unfold nearP at he ⊢
        rw [Bool.eq_false_iff] at he ⊢
        simp only [ne_eq, Bool.and_eq_true, decide_eq_true_eq] at he ⊢
        rcases col0_mono h hks with hm | hm
        · have h1 := hm b j (by omega) hj (by omega)
          have h2 := hm i b hi (by omega) (by omega)
          omega
        · have h1 := hm b j (by omega) hj (by omega)
          have h2 := hm i b hi (by omega) (by omega)
          omega
    rw [this]; simp; omega
/-- positions that there are -/
def cutA (a : Int) : Int := if a < 1 then 1 else a
def cutB (b n : Int) : Int := if n < b then n else b
theorem frame_edges {ks : List (Nat × Bool)} {f : Frame} {x : R3} {i : Int} {l : List R3} (hf : 3 ≤ f.kind) : insideF ks f l.length x i 1 (cp l) = segR l (cutA (edgeP f.frm l.length i)).toNat (cutB (edgeP f.to l.length i) l.length).toNat := by
  refine inside_all (fun j hj => ?_)
  unfold withinF cutA cutB
  rw [if_neg (by omega), if_neg (by omega), if_neg (by omega), Bool.eq_iff_iff]
  simp only [Bool.and_eq_true, decide_eq_true_eq]
  split <;> split <;> omega
/-- the tile of a position, by division -/
def tileP (i n m : Int) : Int := if n / m = 0 ∨ i ≤ (n % m) * (n / m + 1) then (i - 1) / (n / m + 1) + 1 else n % m + (i - 1 - (n % m) * (n / m + 1)) / (n / m) + 1
def tileEnd (s r t : Int) : Int := t * s + (if t ≤ r then t else r)
theorem tileEnd_succ (s r t : Int) : tileEnd s r (t + 1) = tileEnd s r t + s + (if t + 1 ≤ r then 1 else 0) := by
  unfold tileEnd
  rw [Int.add_mul]
  split <;> split <;> omega
theorem tileEnd_mono {s r t : Int} (hs : 0 ≤ s) : ∀ k : Nat, tileEnd s r t ≤ tileEnd s r (t + k)
  | 0 => by simp
  | k + 1 => by
    have ih := tileEnd_mono (r := r) (t := t) hs k
    rw [show t + ((k + 1 : Nat) : Int) = t + k + 1 by omega, tileEnd_succ]
    split <;> omega
theorem tileG_is (i n m T : Int) (hs : 0 ≤ n / m) (h1 : tileEnd (n / m) (n % m) (T - 1) < i) (h2 : i ≤ tileEnd (n / m) (n % m) T) : ∀ (f : Nat) (t : Int), t ≤ T → T - t < f → tileG i n m f t (tileEnd (n / m) (n % m) (t - 1)) = T
  | 0, t, ht, hf => by omega
  | f + 1, t, ht, hf => by
    have hs1 := tileEnd_succ (n / m) (n % m) (t - 1)
    rw [show t - 1 + 1 = t by omega] at hs1
    rw [tileG]
    show (if i ≤ tileEnd (n / m) (n % m) (t - 1) + n / m + (if t ≤ n % m then 1 else 0) then t else tileG i n m f (t + 1) (tileEnd (n / m) (n % m) (t - 1) + n / m + (if t ≤ n % m then 1 else 0))) = T
    rw [← hs1]
    by_cases hlt : i ≤ tileEnd (n / m) (n % m) t
    · rw [if_pos hlt]
      rcases Int.lt_or_eq_of_le ht with q | q
      · have := tileEnd_mono (s := n / m) (r := n % m) (t := t) hs (T - 1 - t).toNat
        rw [show t + ((T - 1 - t).toNat : Int) = T - 1 by omega] at this
        omega
      · exact q
    · rw [if_neg hlt]
      have hne : t ≠ T := fun e => hlt (by rw [e]; exact h2)
      have := tileG_is i n m T hs h1 h2 f (t + 1) (by omega) (by omega)
      rw [show t + 1 - 1 = t by omega] at this
      exact this
theorem tileP_eq {i n m : Int} (hi : 1 ≤ i) (hin : i ≤ n) (hm : 1 ≤ m) : tileP i n m = tileF i n m := by
  have hs : 0 ≤ n / m := Int.ediv_nonneg (by omega) (by omega)
  have hr0 : 0 ≤ n % m := Int.emod_nonneg _ (by omega)
  have hr1 : n % m < m := Int.emod_lt_of_pos _ (by omega)
  have hn : m * (n / m) + n % m = n := Int.mul_ediv_add_emod n m
  have key : ∀ T : Int, 1 ≤ T → T ≤ m → tileEnd (n / m) (n % m) (T - 1) < i → i ≤ tileEnd (n / m) (n % m) T → tileF i n m = T := fun T t1 t2 h1 h2 => by
    have := tileG_is i n m T hs h1 h2 m.toNat 1 t1 (by omega)
    unfold tileF
    rw [← this]
    congr 1
    unfold tileEnd
    simp
    omega
  unfold tileP
  generalize n / m = s at *
  generalize n % m = r at *
  by_cases hc : i ≤ r * (s + 1)
  · have q0 : 0 ≤ (i - 1) / (s + 1) := Int.ediv_nonneg (by omega) (by omega)
    have q1 : (s + 1) * ((i - 1) / (s + 1)) ≤ i - 1 := Int.mul_ediv_self_le (by omega)
    have q2 : i - 1 < (s + 1) * ((i - 1) / (s + 1)) + (s + 1) := Int.lt_mul_ediv_self_add (by omega)
    rw [if_pos (.inr hc)]
    generalize (i - 1) / (s + 1) = q at *
    have hqr : q < r := by
      refine Classical.byContradiction fun h => ?_
      have : (s + 1) * r ≤ (s + 1) * q := Int.mul_le_mul_of_nonneg_left (by omega) (by omega)
      rw [Int.mul_comm (s + 1) r] at this
      omega
    have e1 : (s + 1) * q = q * s + q := by rw [Int.add_mul, Int.one_mul, Int.mul_comm]
    refine (key (q + 1) (by omega) (by omega) ?_ ?_).symm
    · unfold tileEnd
      rw [show q + 1 - 1 = q by omega, if_pos (by omega)]; omega
    · unfold tileEnd
      rw [if_pos (by omega), Int.add_mul]; omega
  · have hs1 : 1 ≤ s := by
      refine Classical.byContradiction fun h => ?_
      have h0 : s = 0 := by omega
      rw [h0] at hc hn
      simp at hc hn
      omega
    rw [if_neg (by omega)]
    have q0 : 0 ≤ (i - 1 - r * (s + 1)) / s := Int.ediv_nonneg (by omega) (by omega)
    have q1 : s * ((i - 1 - r * (s + 1)) / s) ≤ i - 1 - r * (s + 1) := Int.mul_ediv_self_le (by omega)
    have q2 : i - 1 - r * (s + 1) < s * ((i - 1 - r * (s + 1)) / s) + s := Int.lt_mul_ediv_self_add (by omega)
    generalize (i - 1 - r * (s + 1)) / s = q at *
    have e0 : r * (s + 1) = r * s + r := by rw [Int.mul_add, Int.mul_one]
    have hqm : r + q < m := by
      refine Classical.byContradiction fun h => ?_
      have : m * s ≤ (r + q) * s := Int.mul_le_mul_of_nonneg_right (by omega) (by omega)
      rw [Int.add_mul, Int.mul_comm q s] at this
      omega
    refine (key (r + q + 1) (by omega) (by omega) ?_ ?_).symm
    · unfold tileEnd
      rw [show r + q + 1 - 1 = r + q by omega, Int.add_mul, Int.mul_comm q s]
      split <;> omega
    · unfold tileEnd
      rw [if_neg (by omega), Int.add_mul, Int.add_mul, Int.mul_comm q s]
      omega
end Pv
end Go.Proofs.YtcoofnhdbejnpaaGreatDoor

/- Plain functions: the value of a FUNC at a position, as package lines tells it; the positions that are shown. -/
namespace Go.Proofs.YtcoofnhdbejnpaaGreatDoor
namespace Pv
open Pq Pr
/-- the column of the copy at a position, if there is one -/
def columnP (l : List R3) (c : Nat) (i : Int) : Val := if i < 1 ∨ (l.length : Int) < i then none else (l[(i - 1).toNat]?).map (colV c)
theorem columnP_in (l : List R3) (c : Nat) (j : Nat) (h : j < l.length) : columnP l c (j + 1 : Nat) = some (colV c l[j]) := by
  unfold columnP
  rw [if_neg (by omega), show ((((j + 1 : Nat) : Int) - 1).toNat) = j by omega, List.getElem?_eq_getElem h]; rfl
theorem cp_get (l : List R3) (i : Nat) (h : i < l.length) : (cp l)[i]? = some (l[i], 0) := by
  unfold cp; rw [List.getElem?_map, List.getElem?_eq_getElem h]; rfl
theorem cp_len (l : List R3) : (cp l).length = l.length := by simp [cp]
theorem valR_number {ks : List (Nat × Bool)} {l : List R3} {f : Fn} {i : Nat} (hi : i < l.length) (hf : f.kind = 0) : valR ks l f (i + 1) = some ((i : Int) + 1) := by
  unfold valR valueF
  rw [Nat.add_sub_cancel, cp_get l i hi]
  simp [hf]
theorem valR_rank {ks : List (Nat × Bool)} {l : List R3} {f : Fn} {i a : Nat} (h : SrtL ks l) (hi : i < l.length) (hf : f.kind = 1) (hai : a ≤ i) (he : endsP ks l (a : Nat) = true) (hm : ∀ j : Nat, a < j → j ≤ i → endsP ks l (j : Nat) = false) : valR ks l f (i + 1) = some ((a : Int) + 1) := by
  unfold valR valueF
  rw [Nat.add_sub_cancel, cp_get l i hi]
  have := first_peer h hi hai he hm
  simp [hf, this]; omega
theorem valR_dense {ks : List (Nat × Bool)} {l : List R3} {f : Fn} {i : Nat} (h : SrtL ks l) (hi : i < l.length) (hf : f.kind = 2) : valR ks l f (i + 1) = some (groupsN ks l i) := by
  unfold valR valueF
  rw [Nat.add_sub_cancel, cp_get l i hi]
  simp [hf, groupsN_eq h i hi]
theorem valR_tile {ks : List (Nat × Bool)} {l : List R3} {f : Fn} {i : Nat} (hi : i < l.length) (hf : f.kind = 3) (hm : 1 ≤ f.num) : valR ks l f (i + 1) = some (tileP ((i : Int) + 1) l.length f.num) := by
  unfold valR valueF
  rw [Nat.add_sub_cancel, cp_get l i hi]
  rw [tileP_eq (by omega) (by omega) hm]
  simp [hf, cp_len]
theorem valR_lag {ks : List (Nat × Bool)} {l : List R3} {f : Fn} {i : Nat} (hi : i < l.length) (hf : f.kind = 4) : valR ks l f (i + 1) = columnP l f.col ((i : Int) + 1 - f.num) := by
  unfold valR valueF columnP
  rw [Nat.add_sub_cancel, cp_get l i hi]
  simp only [hf, cp_len]
  simp [cp]
  rfl
theorem valR_lead {ks : List (Nat × Bool)} {l : List R3} {f : Fn} {i : Nat} (hi : i < l.length) (hf : f.kind = 5) : valR ks l f (i + 1) = columnP l f.col ((i : Int) + 1 + f.num) := by
  unfold valR valueF columnP
  rw [Nat.add_sub_cancel, cp_get l i hi]
  simp only [hf, cp_len]
  simp [cp]
  rfl
theorem valR_over {ks : List (Nat × Bool)} {l : List R3} {f : Fn} {i : Nat} (hi : i < l.length) (hf : 6 ≤ f.kind) : valR ks l f (i + 1) = overF f.kind f.col (insideF ks f.frame l.length l[i] ((i : Int) + 1) 1 (cp l)) := by
  unfold valR valueF
  rw [Nat.add_sub_cancel, cp_get l i hi]
  simp only [cp_len]
  rw [if_neg (by omega), if_neg (by omega), if_neg (by omega), if_neg (by omega), if_neg (by omega)]
  rfl
/-- the stretch between two positions -/
def segI (l : List R3) (a b : Int) : List R3 := segR l a.toNat b.toNat
theorem segI_none (l : List R3) (a b : Int) (h : b < a) : segI l a b = [] := by
  unfold segI
  by_cases ha : 1 ≤ a
  · exact seg_none l _ _ (by omega)
  · unfold segR
    rw [show b.toNat = 0 by omega]; simp
theorem over_none {k c : Nat} : overF k c [] = if k = 6 then some 0 else none := by
  unfold overF
  split <;> rfl
theorem over_some {k c : Nat} {l : List R3} {a b : Nat} (ha : a < b) (hb : b ≤ l.length) : overF k c (segR l (a + 1) b) = if k = 6 then some ((b : Int) - a) else if k = 7 then some (sumC c (segR l (a + 1) b)) else if k = 8 then some (minC c (colV c l[a]) (segR l (a + 1) b)) else if k = 9 then some (maxC c (colV c l[a]) (segR l (a + 1) b)) else if k = 10 then some (colV c l[a]) else some (colV c (l[b - 1]'(by omega))) := by
  obtain ⟨q, hq⟩ := seg_head l (a + 1) b (by omega) (by omega) hb
  have hl := seg_len l (a + 1) b (by omega) (by omega) hb
  have hs : segR l (a + 1) b = segR l (a + 1) (b - 1) ++ [l[b - 1]'(by omega)] := by
    have := seg_succ l (a + 1) (b - 1) (by omega) (by omega)
    rw [show b - 1 + 1 = b by omega] at this
    exact this
  have hlast : ∀ (m : List R3) (h : m ≠ []), m = segR l (a + 1) b → m.getLast h = l[b - 1]'(by omega) := fun m h e => by
    subst e
    simp only [hs]
    simp
  unfold overF
  rw [hl]
  by_cases h6 : k = 6
  · rw [if_pos h6, if_pos h6]; congr 1; omega
  · rw [if_neg h6, if_neg h6, hq]
    simp only [Nat.add_sub_cancel]
    have hq2 : l[a] :: q = segR l (a + 1) b := hq.symm
    rw [hlast (l[a] :: q) (by simp) hq2]
/-- the out row of a position -/
def outAt (q : Qry) (l : List R3) (i : Nat) : Out := ((l[i - 1]?).getD (0, 0, 0), q.fs.map (fun f => valR q.ks l f i), 1)
def segO (q : Qry) (l : List R3) (a b : Nat) : List Out := (List.range (b + 1 - a)).map (fun j => outAt q l (a + j))
theorem segO_succ (q : Qry) (l : List R3) (a b : Nat) (h : a ≤ b + 1) : segO q l a (b + 1) = segO q l a b ++ [outAt q l (b + 1)] := by
  unfold segO
  rw [show b + 1 + 1 - a = b + 1 - a + 1 by omega, List.range_succ, List.map_append]
  simp [show a + (b + 1 - a) = b + 1 by omega]
theorem segO_none (q : Qry) (l : List R3) (a b : Nat) (h : b < a) : segO q l a b = [] := by
  unfold segO; rw [show b + 1 - a = 0 by omega]; rfl
theorem segO_cons (q : Qry) (l : List R3) (a b : Nat) (h : a ≤ b) : segO q l a b = outAt q l a :: segO q l (a + 1) b := by
  unfold segO
  rw [show b + 1 - a = b + 1 - (a + 1) + 1 by omega, List.range_succ_eq_map, List.map_cons, List.map_map]
  congr 1
  refine List.map_congr_left (fun j _ => ?_)
  show outAt q l (a + (j + 1)) = outAt q l (a + 1 + j)
  congr 1; omega
theorem shownG_seg {q : Qry} {l : List R3} {a b : Nat} (hb : b ≤ l.length) (h : ∀ i : Nat, 1 ≤ i → i ≤ l.length → topOk q i = decide (a ≤ i ∧ i ≤ b)) : ∀ (m : List R3) (k : Nat), m = l.drop k → shownG q l (k + 1) m = segO q l (max a (k + 1)) b
  | [], k, e => by
    have : l.length ≤ k := by
      have := congrArg List.length e
      simp at this; omega
    rw [segO_none q l _ _ (by omega)]; rfl
  | x :: m, k, e => by
    have hk : k < l.length := by
      have := congrArg List.length e
      simp at this; omega
    rw [List.drop_eq_getElem_cons hk] at e
    obtain ⟨rfl, rfl⟩ := List.cons.inj e
    have ih := shownG_seg hb h (l.drop (k + 1)) (k + 1) rfl
    rw [shownG, ih, h (k + 1) (by omega) (by omega)]
    by_cases hin : a ≤ k + 1 ∧ k + 1 ≤ b
    · rw [if_pos (by simpa using hin), show max a (k + 1) = k + 1 by omega, show max a (k + 1 + 1) = k + 1 + 1 by omega, segO_cons q l (k + 1) b hin.2]
      congr 1
      unfold outAt
      rw [Nat.add_sub_cancel, List.getElem?_eq_getElem hk]
      rfl
    · rw [if_neg (by simpa using hin)]
      by_cases hkb : b < k + 1
      · rw [segO_none q l _ _ (by omega), segO_none q l _ _ (by omega)]
      · rw [show max a (k + 1) = max a (k + 1 + 1) by omega]
def showA (q : Qry) : Int := if q.top < 0 then 1 else cutA (q.frm + 1)
def showB (q : Qry) (n : Int) : Int := if q.top < 0 then n else cutB (q.frm + q.top) n
theorem shownP_seg {q : Qry} (hf : 0 ≤ q.frm) (l : List R3) : shownP q l = segO q l (showA q).toNat (showB q l.length).toNat ∧ 1 ≤ showA q ∧ showB q l.length ≤ l.length ∧ 0 ≤ showB q l.length := by
  have h1 : 1 ≤ showA q := by unfold showA cutA; split <;> (try split) <;> omega
  have h2 : showB q l.length ≤ l.length := by unfold showB cutB; split <;> (try split) <;> omega
  have h3 : 0 ≤ showB q l.length := by unfold showB cutB; split <;> (try split) <;> omega
  refine ⟨?_, h1, h2, h3⟩
  unfold shownP
  have := shownG_seg (q := q) (l := l) (a := (showA q).toNat) (b := (showB q l.length).toNat) (by omega) (fun i hi hil => ?_) l 0 (by simp)
  · rw [show max (showA q).toNat (0 + 1) = (showA q).toNat by omega] at this
    exact this
  · unfold topOk showA showB cutA cutB
    rw [Bool.eq_iff_iff]
    simp only [Bool.or_eq_true, Bool.and_eq_true, decide_eq_true_eq]
    by_cases ht : q.top < 0
    · rw [if_pos ht, if_pos ht]; omega
    · rw [if_neg ht, if_neg ht]
      split <;> split <;> omega
theorem segO_len (q : Qry) (l : List R3) (a b : Nat) : (segO q l a b).length = b + 1 - a := by simp [segO]
end Pv
end Go.Proofs.YtcoofnhdbejnpaaGreatDoor

