/- Plain functions: what the loops leave alone; the fault that is told; the whole reading. -/
import Derived.Test.YtcoofnhdbejnpaaGreatDoorG01
namespace Go.Proofs.YtcoofnhdbejnpaaGreatDoor
namespace Pq
theorem byStep_same (toks : List Tok) (len : Nat) (s : PS) : (byStep toks len s).keys = s.keys ∧ (byStep toks len s).funcs = s.funcs := by
  have h := same_oneOf toks colTxt 3 s
  have h2 := h.trans (same_twice (placeS toks len s) _)
  simp only [byStep, byMark]; split
  · exact ⟨h2.keys, h2.funcs⟩
  · exact ⟨h.keys, h.funcs⟩
theorem byR_same (toks : List Tok) (len : Nat) (s : PS) : (byR toks len s).keys = s.keys ∧ (byR toks len s).funcs = s.funcs := by
  induction s using byR_ind (toks := toks) (len := len) with
  | case1 s h ih => rw [byR_eq, dif_pos h]; have := byStep_same toks len s; exact ⟨ih.1.trans this.1, ih.2.trans this.2⟩
  | case2 s h => rw [byR_eq, dif_neg h]; exact byStep_same toks len s
theorem keyStep_same (toks : List Tok) (len : Nat) (s : PS) : (keyStep toks len s).by' = s.by' ∧ (keyStep toks len s).funcs = s.funcs := by
  have h := (same_oneOf toks colTxt 3 s).trans (same_take toks wDesc _)
  have h2 := h.trans (same_twice (placeS toks len s) _)
  simp only [keyStep, keyMark, keySt]; split
  · exact ⟨h2.by', h2.funcs⟩
  · exact ⟨h.by', h.funcs⟩
theorem keyR_same (toks : List Tok) (len : Nat) (s : PS) : (keyR toks len s).by' = s.by' ∧ (keyR toks len s).funcs = s.funcs := by
  induction s using keyR_ind (toks := toks) (len := len) with
  | case1 s h ih => rw [keyR_eq, dif_pos h]; have := keyStep_same toks len s; exact ⟨ih.1.trans this.1, ih.2.trans this.2⟩
  | case2 s h => rw [keyR_eq, dif_neg h]; exact keyStep_same toks len s
theorem q1_same (toks : List Tok) (len : Nat) (s : PS) : (q1 toks len s).keys = s.keys ∧ (q1 toks len s).funcs = s.funcs := by
  unfold q1; split
  · exact byR_same toks len s.step
  · exact ⟨rfl, rfl⟩
theorem q2_same (toks : List Tok) (len : Nat) (s : PS) : (q2 toks len s).funcs = s.funcs := by
  unfold q2; rw [(keyR_same _ _ _).2, (same_want _ _ _).funcs]; exact (q1_same toks len s).2
/-- the error that is named first, and its place -/
def faultE (s : PS) : Int := if s.failed then 3 else if s.many ≠ -1 then 4 else if s.twice ≠ -1 then 5 else if s.arg ≠ -1 then 6 else 0
def faultP (toks : List Tok) (len : Nat) (s : PS) : Int := if s.failed then placeS toks len s else if s.many ≠ -1 then s.many else if s.twice ≠ -1 then s.twice else if s.arg ≠ -1 then s.arg else 0
def ps0 : PS := ⟨0, false, [], [], [], false, 0, 0, -1, -1, -1⟩
theorem top1_next (toks : List Tok) (s : PS) : s.next ≤ (top1 toks s).next := numS_next toks { s with hasTop := true }
theorem topS_next (toks : List Tok) (s : PS) : s.next ≤ (topS toks s).next := by
  have h1 := top1_next toks s; have h2 := numS_next toks (top1 toks s).step
  unfold topS; split
  · have h3 : (top1 toks s).step.next = (top1 toks s).next + 1 := rfl
    simp only []; omega
  · exact h1
theorem same_top1 (toks : List Tok) (s : PS) : Same s (top1 toks s) := by
  have h := same_num toks { s with hasTop := true }
  exact ⟨h.by', h.keys, h.funcs⟩
theorem same_top (toks : List Tok) (s : PS) : Same s (topS toks s) := by
  unfold topS; split
  · have h := ((same_top1 toks s).trans (same_step _)).trans (same_num toks (top1 toks s).step)
    exact ⟨h.by', h.keys, h.funcs⟩
  · exact same_top1 toks s
theorem endS_next (toks : List Tok) (s : PS) : (endS toks s).next = s.next := by unfold endS; split <;> rfl
end Pq
end Go.Proofs.YtcoofnhdbejnpaaGreatDoor

/- Plain functions: reading a text; what its tokens are. -/
namespace Go.Proofs.YtcoofnhdbejnpaaGreatDoor
namespace Pq
def toksOf (l : Bytes) : List Tok := (lexFrom l 0).1
def endPS (l : Bytes) : PS := queryS (toksOf l) l.length ps0
def readE (l : Bytes) : Int := if 300 < l.length then 1 else if (lexFrom l 0).2 = -1 then faultE (endPS l) else 2
def readP (l : Bytes) : Int := if 300 < l.length then 0 else if (lexFrom l 0).2 = -1 then faultP (toksOf l) l.length (endPS l) else (lexFrom l 0).2
theorem isSgn_not_dig {c : UInt8} (h : isDig c = true) : isSgn c = false := by
  simp only [isDig, Bool.and_eq_true, decide_eq_true_eq] at h
  simp only [isSgn, Bool.or_eq_false_iff, beq_eq_false_iff_ne]
  omega
def GoodTok (t : Tok) : Prop := t.num = true → t.text.length ≤ 2 ∧ ∀ c ∈ t.text, isDig c = true
theorem text_rowEnd (p : UInt8 → Bool) (l : Bytes) (n : Nat) : (l.take (rowEnd p l n)).drop n = (l.drop n).takeWhile p := by
  rw [List.drop_take]
  have e : rowEnd p l n - n = ((l.drop n).takeWhile p).length := by unfold rowEnd; omega
  rw [e]
  exact (List.prefix_iff_eq_take.1 (List.takeWhile_prefix p)).symm
theorem lexFrom_good (l : Bytes) (n : Nat) : ∀ t ∈ (lexFrom l n).1, GoodTok t := by
  induction n using lexFrom_ind (l := l) with
  | case1 n h hb ih => rw [lexFrom_blk h hb]; exact ih
  | case2 n h hb he => rw [lexFrom_bad h (by simpa using hb) he]; intro t ht; cases ht
  | case3 n h hb he ih =>
    rw [lexFrom_tok h (by simpa using hb) (by omega)]
    intro t ht
    rcases List.mem_cons.1 ht with rfl | ht
    · intro hd
      simp only at hd ⊢
      have hs := isSgn_not_dig hd
      have e : tokEnd l n = if rowEnd isDig l n - n > 2 then n else rowEnd isDig l n := by unfold tokEnd; rw [dif_pos h]; simp [hs, hd]
      by_cases h2 : rowEnd isDig l n - n > 2
      · rw [e, if_pos h2] at he; omega
      · rw [e, if_neg h2]
        rw [text_rowEnd]
        refine ⟨?_, fun c hc => ?_⟩
        · have : rowEnd isDig l n - n = ((l.drop n).takeWhile isDig).length := by unfold rowEnd; omega
          omega
        · exact List.all_eq_true.1 List.all_takeWhile c hc
    · exact ih t ht
  | case4 n h => rw [lexFrom_end h]; intro t ht; cases ht
theorem lexFrom_len (l : Bytes) (n : Nat) : (lexFrom l n).1.length ≤ l.length - n := by
  induction n using lexFrom_ind (l := l) with
  | case1 n h hb ih => rw [lexFrom_blk h hb]; omega
  | case2 n h hb he => rw [lexFrom_bad h (by simpa using hb) he]; simp
  | case3 n h hb he ih =>
    rw [lexFrom_tok h (by simpa using hb) (by omega)]
    simp only [List.length_cons]; omega
  | case4 n h => rw [lexFrom_end h]; simp
theorem readE_long {l : Bytes} (h : 300 < l.length) : readE l = 1 ∧ readP l = 0 := by simp [readE, readP, h]
theorem readE_bad {l : Bytes} (h : ¬ 300 < l.length) (hl : ¬ (lexFrom l 0).2 = -1) : readE l = 2 ∧ readP l = (lexFrom l 0).2 := by simp [readE, readP, h, hl]
theorem readE_ok {l : Bytes} (h : ¬ 300 < l.length) (hl : (lexFrom l 0).2 = -1) : readE l = faultE (endPS l) ∧ readP l = faultP (toksOf l) l.length (endPS l) := by simp [readE, readP, h, hl]
end Pq
end Go.Proofs.YtcoofnhdbejnpaaGreatDoor

/- Plain functions: what package panesref's token reader answers, and that it is what package queries' answers. -/
namespace Go.Proofs.YtcoofnhdbejnpaaGreatDoor
namespace Pr
open Pq
/-- is the word one of these? -/
def inW (t : Bytes) (ws : List Bytes) : Bool := ws.contains t
end Pr
end Go.Proofs.YtcoofnhdbejnpaaGreatDoor

/- Plain functions: what package panesref's symbols become, and what fits them. -/
namespace Go.Proofs.YtcoofnhdbejnpaaGreatDoor
namespace Pr
open Pq
abbrev sBY : Bytes := [66, 89]
abbrev sCOLS : Bytes := [67, 79, 76, 83]
abbrev sKEYS : Bytes := [75, 69, 89, 83]
abbrev sDESC : Bytes := [68, 69, 83, 67]
abbrev sFUNCS : Bytes := [70, 85, 78, 67, 83]
abbrev sTOP : Bytes := [84, 79, 80]
abbrev sFROM : Bytes := [70, 82, 79, 77]
abbrev sFUNC : Bytes := [70, 85, 78, 67]
abbrev sFRAME : Bytes := [70, 82, 65, 77, 69]
abbrev sEDGE : Bytes := [69, 68, 71, 69]
abbrev sSIDE : Bytes := [83, 73, 68, 69]
abbrev sCOL : Bytes := [67, 79, 76]
abbrev sNUM : Bytes := [78, 85, 77]
/-- does the token begin with a digit? -/
def numT (t : Bytes) : Bool := match t with | [] => false | c :: _ => isDig c
def partsF (sym t : Bytes) : Option (List Bytes) := if (sym == sFUNC) then (if inW t [[110, 117, 109, 98, 101, 114], [114, 97, 110, 107], [100, 101, 110, 115, 101]] then (some [t]) else if (t == [116, 105, 108, 101]) then (some [[116, 105, 108, 101], [40], sNUM, [41]]) else if (t == [108, 97, 103]) then (some [t, [40], sCOL, [44], sNUM, [41]]) else if (t == [108, 101, 97, 100]) then (some [t, [40], sCOL, [44], sNUM, [41]]) else if inW t [[99, 111, 117, 110, 116], [115, 117, 109], [109, 105, 110], [109, 97, 120], [102, 105, 114, 115, 116], [108, 97, 115, 116]] then (some [t, [40], sCOL, [44], sFRAME, [41]]) else some [[116, 105, 108, 101]]) else if (sym == sFRAME) then (if (t == [97, 108, 108]) then (some [t]) else if (t == [112, 101, 101, 114, 115]) then (some [t]) else if (t == [110, 101, 97, 114]) then (some [[110, 101, 97, 114], sNUM]) else some [sEDGE, [116, 111], sEDGE]) else if (sym == sEDGE) then (if inW t [[115, 116, 97, 114, 116], [101, 110, 100], [104, 101, 114, 101]] then (some [t]) else if numT t then (some [sNUM, sSIDE]) else some [[104, 101, 114, 101]]) else if (sym == sSIDE) then (if (t == [98, 97, 99, 107]) then (some [[98, 97, 99, 107]]) else some [[111, 110]]) else none
def becomesF (sym t : Bytes) : Option (List Bytes) := if (sym == sBY) then (if (t == [98, 121]) then (some [[98, 121], sCOL, sCOLS]) else some []) else if (sym == sCOLS) then (if (t == [44]) then (some [[44], sCOL, sCOLS]) else some []) else if (sym == sKEYS) then (if (t == [44]) then (some [[44], sCOL, sDESC, sKEYS]) else some []) else if (sym == sDESC) then (if (t == [100, 101, 115, 99]) then (some [[100, 101, 115, 99]]) else some []) else if (sym == sFUNCS) then (if (t == [44]) then (some [[44], sFUNC, sFUNCS]) else some []) else if (sym == sTOP) then (if (t == [116, 111, 112]) then (some [[116, 111, 112], sNUM, sFROM]) else some []) else if (sym == sFROM) then (if (t == [102, 114, 111, 109]) then (some [[102, 114, 111, 109], sNUM]) else some []) else partsF sym t
def fitsF (sym t : Bytes) : Bool := if t == [] then false else if sym == sCOL then inW t [[112], [107], [118]] else if sym == sNUM then numT t else sym == t
end Pr
end Go.Proofs.YtcoofnhdbejnpaaGreatDoor

/- Plain functions: package panesref's stack of symbols. -/
namespace Go.Proofs.YtcoofnhdbejnpaaGreatDoor
namespace Pr
open Pq
def nulls : List Bytes := [sBY, sCOLS, sKEYS, sDESC, sFUNCS, sTOP, sFROM]
def rank (s : Bytes) : Nat := if nulls.contains s then 3 else if s == sFRAME then 2 else if s == sFUNC then 1 else if s == sEDGE then 1 else if s == sSIDE then 1 else 0
/-- how much the head may still unfold -/
def sec : List Bytes → Nat | [] => 0 | s :: r => if rank s = 3 then 3 + r.length else rank s
/-- the token at hand: empty, behind the last -/
def tAt (toks : List Tok) (i : Nat) : Bytes := match toks[i]? with | some x => x.text | none => []
/-- the head unfolded, with the token t at hand, till it is a token, COL or NUM; in so many steps at most -/
def expand (t : Bytes) : Nat → List Bytes → List Bytes
  | 0, ws => ws
  | _ + 1, [] => []
  | f + 1, sym :: r => match becomesF sym t with | some m => expand t f (m ++ r) | none => sym :: r
/-- the symbols that must come, from the token i on, of which so many are left: has it failed, and where it stands -/
def runF (toks : List Tok) : Nat → List Bytes → Nat → Bool × Nat
  | 0, ws, i => match expand (tAt toks i) (sec ws) ws with | [] => (false, i) | _ :: _ => (true, i)
  | n + 1, ws, i => match expand (tAt toks i) (sec ws) ws with | [] => (false, i) | sym :: r => if fitsF sym (tAt toks i) = true then runF toks n r (i + 1) else (true, i)
/-- the symbols that must come, from the token i on: has it failed, and where it stands -/
def run (toks : List Tok) (ws : List Bytes) (i : Nat) : Bool × Nat := runF toks (toks.length - i) ws i
end Pr
end Go.Proofs.YtcoofnhdbejnpaaGreatDoor

/- Plain functions: the stack of symbols against the reading by descent: they fail at the same place. -/
namespace Go.Proofs.YtcoofnhdbejnpaaGreatDoor
namespace Pr
open Pq
/-- what may still come, from a state on -/
def cont (toks : List Tok) (s : PS) (ws : List Bytes) : Bool × Nat := if s.failed then (true, s.next) else run toks ws s.next
def Sim (toks : List Tok) (ws : List Bytes) (f : PS → PS) : Prop := ∀ s rest, cont toks s (ws ++ rest) = cont toks (f s) rest
theorem Sim.comp {toks : List Tok} {a b : List Bytes} {f g : PS → PS} (h1 : Sim toks a f) (h2 : Sim toks b g) : Sim toks (a ++ b) (fun s => g (f s)) := by
  intro s rest; rw [List.append_assoc, h1, h2]
theorem Sim.cons {toks : List Tok} {a : Bytes} {b : List Bytes} {f g : PS → PS} (h1 : Sim toks [a] f) (h2 : Sim toks b g) : Sim toks (a :: b) (fun s => g (f s)) := h1.comp h2
/-- a state that has failed stays as it is -/
def Stays (f : PS → PS) : Prop := ∀ s, s.failed = true → (f s).failed = true ∧ (f s).next = s.next
theorem Stays.comp {f g : PS → PS} (h1 : Stays f) (h2 : Stays g) : Stays (fun s => g (f s)) := fun s hs => ⟨(h2 _ (h1 s hs).1).1, (h2 _ (h1 s hs).1).2.trans (h1 s hs).2⟩
/-! one symbol -/
/-! lists -/
end Pr
end Go.Proofs.YtcoofnhdbejnpaaGreatDoor

/- Plain functions: the texts that a query is told by. -/
namespace Go.Proofs.YtcoofnhdbejnpaaGreatDoor
namespace Pq
def numTxt (n : Int) : Bytes := if n < 10 then [UInt8.ofNat (48 + n.toNat)] else [UInt8.ofNat (48 + n.toNat / 10), UInt8.ofNat (48 + n.toNat % 10)]
def edgeTxt (e : Edge) : Bytes := if e.kind = 0 then wStart else if e.kind = 1 then wEnd else if e.kind = 2 then wHere else if e.kind = 3 then numTxt e.num ++ 32 :: wBack else numTxt e.num ++ 32 :: wOn
def frameTxt (f : Frame) : Bytes := if f.kind = 0 then wAll else if f.kind = 1 then wPeers else if f.kind = 2 then wNear ++ 32 :: numTxt f.num else edgeTxt f.frm ++ (32 :: wTo ++ [32]) ++ edgeTxt f.to
def fnTxt (f : Fn) : Bytes :=
  if f.kind < 3 then kindTxt f.kind
  else if f.kind = 3 then kindTxt f.kind ++ (wOpen ++ numTxt f.num) ++ wClose
  else if f.kind < 6 then kindTxt f.kind ++ (wOpen ++ colTxt f.col) ++ (wComma ++ 32 :: numTxt f.num) ++ wClose
  else kindTxt f.kind ++ (wOpen ++ colTxt f.col) ++ (wComma ++ 32 :: frameTxt f.frame) ++ wClose
/-- with ', ' between each two -/
def joinTxt : List Bytes → Bytes
  | [] => []
  | [x] => x
  | x :: y :: r => x ++ (44 :: 32 :: joinTxt (y :: r))
def goodNum (n : Int) : Prop := 0 ≤ n ∧ n < 100
theorem numTxt_len (n : Int) : (numTxt n).length ≤ 2 := by unfold numTxt; split <;> simp
theorem kindTxt_len (k : Nat) : (kindTxt k).length ≤ 6 := by unfold kindTxt; split <;> simp
end Pq
end Go.Proofs.YtcoofnhdbejnpaaGreatDoor

/- Plain functions: lists of texts, and the plain form of a query. -/
namespace Go.Proofs.YtcoofnhdbejnpaaGreatDoor
namespace Pq
def keyTxt (k : Nat × Bool) : Bytes := if k.2 then colTxt k.1 ++ 32 :: wDesc else colTxt k.1
def colsTxt (l : List Nat) : Bytes := joinTxt (l.map colTxt)
def keysTxt (l : List (Nat × Bool)) : Bytes := joinTxt (l.map keyTxt)
def fnsTxt (l : List Fn) : Bytes := joinTxt (l.map fnTxt)
def byTxt (l : List Nat) : Bytes := if l.length = 0 then [] else wBy ++ 32 :: colsTxt l ++ [32]
def topTxt (s : PS) : Bytes := (if s.hasTop then 32 :: wTop ++ 32 :: numTxt s.top else []) ++ (if 0 < s.frm then 32 :: wFrom ++ 32 :: numTxt s.frm else [])
def plainTxt (s : PS) : Bytes := byTxt s.by' ++ (wOrder ++ 32 :: keysTxt s.keys) ++ (32 :: wShow ++ 32 :: fnsTxt s.funcs) ++ topTxt s
end Pq
end Go.Proofs.YtcoofnhdbejnpaaGreatDoor

/- Plain functions: what the tokens of a query that is read without a failure are. -/
namespace Go.Proofs.YtcoofnhdbejnpaaGreatDoor
namespace Pr
open Pq
/-- these tokens stand from the place i on -/
def At (toks : List Tok) (i : Nat) (l : List Tok) : Prop := ∃ r, toks.drop i = l ++ r
theorem At.one {toks : List Tok} {i : Nat} {x : Tok} (h : toks[i]? = some x) : At toks i [x] := by
  have hl : i < toks.length := by
    rcases Nat.lt_or_ge i toks.length with h' | h'
    · exact h'
    · rw [List.getElem?_eq_none h'] at h; cases h
  rw [List.getElem?_eq_getElem hl] at h
  cases h
  exact ⟨toks.drop (i + 1), by rw [List.drop_eq_getElem_cons hl]; rfl⟩
theorem At.head {toks r : List Tok} {i : Nat} {x : Tok} (h : At toks i (x :: r)) : toks[i]? = some x := by
  obtain ⟨q, e⟩ := h
  have := congrArg List.head? e
  rw [List.head?_drop] at this
  exact this
/-- a token that is a number -/
structure NTok (x : Tok) : Prop where
  len : x.text.length ≤ 2
  dig : ∀ c ∈ x.text, isDig c = true
  ne : x.text ≠ []
/-! edges, frames, functions -/
def EdgeSeg (e : Edge) (l : List Tok) : Prop := ∀ M : Edge → List Tok → Prop, (∀ (x : Tok), x.text = wStart → M ⟨0, 0⟩ [x]) → (∀ (x : Tok), x.text = wEnd → M ⟨1, 0⟩ [x]) → (∀ (x : Tok), x.text = wHere → M ⟨2, 0⟩ [x]) → (∀ (x : Tok) (y : Tok), NTok x → y.text = wBack → M ⟨3, worth x.text⟩ [x, y]) → (∀ (x : Tok) (y : Tok), NTok x → y.text = wOn → M ⟨4, worth x.text⟩ [x, y]) → M e l
theorem EdgeSeg.on (x : Tok) (y : Tok) (hx : NTok x) (hy : y.text = wOn) : EdgeSeg ⟨4, worth x.text⟩ [x, y] := fun _ _ _ _ _ r4 => r4 x y hx hy
def FrameSeg (f : Frame) (l : List Tok) : Prop := ∀ M : Frame → List Tok → Prop, (∀ (x : Tok), x.text = wAll → M ⟨0, 0, ⟨0, 0⟩, ⟨0, 0⟩⟩ [x]) → (∀ (x : Tok), x.text = wPeers → M ⟨1, 0, ⟨0, 0⟩, ⟨0, 0⟩⟩ [x]) → (∀ (x : Tok) (y : Tok), x.text = wNear → NTok y → M ⟨2, worth y.text, ⟨0, 0⟩, ⟨0, 0⟩⟩ [x, y]) → (∀ (a : Edge) (b : Edge) (l : List Tok) (m : List Tok) (x : Tok), EdgeSeg a l → x.text = wTo → EdgeSeg b m → M ⟨3, 0, a, b⟩ (l ++ x :: m)) → M f l
def FnSeg (f : Fn) (l : List Tok) : Prop := ∀ M : Fn → List Tok → Prop, (∀ (k : Nat) (x : Tok), k < 3 → x.text = kindTxt k → M ⟨k, 0, 0, fr0⟩ [x]) → (∀ (x : Tok) (a : Tok) (y : Tok) (b : Tok), x.text = kindTxt 3 → a.text = wOpen → NTok y → b.text = wClose → M ⟨3, 0, worth y.text, fr0⟩ [x, a, y, b]) → (∀ (k : Nat) (c : Nat) (x : Tok) (a : Tok) (p : Tok) (q : Tok) (y : Tok) (b : Tok), 3 < k → k < 6 → c < 3 → x.text = kindTxt k → a.text = wOpen → p.text = colTxt c → q.text = wComma → NTok y → b.text = wClose → M ⟨k, c, worth y.text, fr0⟩ [x, a, p, q, y, b]) → (∀ (k : Nat) (c : Nat) (f : Frame) (x : Tok) (a : Tok) (p : Tok) (q : Tok) (b : Tok) (l : List Tok), 5 < k → k < 12 → c < 3 → x.text = kindTxt k → a.text = wOpen → p.text = colTxt c → q.text = wComma → FrameSeg f l → b.text = wClose → M ⟨k, c, 0, f⟩ (x :: a :: p :: q :: (l ++ [b]))) → M f l
theorem FnSeg.word (k : Nat) (x : Tok) (hk : k < 3) (hx : x.text = kindTxt k) : FnSeg ⟨k, 0, 0, fr0⟩ [x] := fun _ r0 _ _ _ => r0 k x hk hx
end Pr
end Go.Proofs.YtcoofnhdbejnpaaGreatDoor

/- Plain functions: what the tokens of a query that is read without a failure are: lists, and the whole. -/
namespace Go.Proofs.YtcoofnhdbejnpaaGreatDoor
namespace Pr
open Pq
def ColsSeg (cs : List Nat) (l : List Tok) : Prop := ∀ M : List Nat → List Tok → Prop, (∀ (c : Nat) (x : Tok), c < 3 → x.text = colTxt c → M [c] [x]) → (∀ (c : Nat) (x : Tok) (y : Tok) (cs : List Nat) (l : List Tok), c < 3 → x.text = colTxt c → y.text = wComma → M cs l → M (c :: cs) (x :: y :: l)) → M cs l
theorem ColsSeg.one (c : Nat) (x : Tok) (hc : c < 3) (hx : x.text = colTxt c) : ColsSeg [c] [x] := fun _ r0 _ => r0 c x hc hx
theorem ColsSeg.more (c : Nat) (x : Tok) (y : Tok) (cs : List Nat) (l : List Tok) (hc : c < 3) (hx : x.text = colTxt c) (hy : y.text = wComma) (h : ColsSeg cs l) : ColsSeg (c :: cs) (x :: y :: l) := fun M r0 r1 => r1 c x y cs l hc hx hy (h M r0 r1)
theorem ColsSeg_ind {motive : (cs : List Nat) → (l : List Tok) → ColsSeg cs l → Prop} (one : ∀ (c : Nat) (x : Tok) (hc : c < 3) (hx : x.text = colTxt c), motive [c] [x] (ColsSeg.one c x hc hx)) (more : ∀ (c : Nat) (x : Tok) (y : Tok) (cs : List Nat) (l : List Tok) (hc : c < 3) (hx : x.text = colTxt c) (hy : y.text = wComma) (h : ColsSeg cs l), motive cs l h → motive (c :: cs) (x :: y :: l) (ColsSeg.more c x y cs l hc hx hy h)) (cs : List Nat) (l : List Tok) (h : ColsSeg cs l) : motive cs l h := by
  obtain ⟨_, q⟩ := h (fun cs l => ∃ h : ColsSeg cs l, motive cs l h) (fun c x hc hx => ⟨_, one c x hc hx⟩) (fun c x y cs l hc hx hy ⟨h, q_h⟩ => ⟨_, more c x y cs l hc hx hy h q_h⟩)
  exact q
def KeySeg (k : Nat × Bool) (l : List Tok) : Prop := ∀ M : Nat × Bool → List Tok → Prop, (∀ (c : Nat) (x : Tok), c < 3 → x.text = colTxt c → M (c, false) [x]) → (∀ (c : Nat) (x : Tok) (y : Tok), c < 3 → x.text = colTxt c → y.text = wDesc → M (c, true) [x, y]) → M k l
def KeysSeg (ks : List (Nat × Bool)) (l : List Tok) : Prop := ∀ M : List (Nat × Bool) → List Tok → Prop, (∀ (k : Nat × Bool) (l : List Tok), KeySeg k l → M [k] l) → (∀ (k : Nat × Bool) (l : List Tok) (y : Tok) (ks : List (Nat × Bool)) (m : List Tok), KeySeg k l → y.text = wComma → M ks m → M (k :: ks) (l ++ y :: m)) → M ks l
theorem KeysSeg.one (k : Nat × Bool) (l : List Tok) (hk : KeySeg k l) : KeysSeg [k] l := fun _ r0 _ => r0 k l hk
theorem KeysSeg.more (k : Nat × Bool) (l : List Tok) (y : Tok) (ks : List (Nat × Bool)) (m : List Tok) (hk : KeySeg k l) (hy : y.text = wComma) (h : KeysSeg ks m) : KeysSeg (k :: ks) (l ++ y :: m) := fun M r0 r1 => r1 k l y ks m hk hy (h M r0 r1)
def FunsSeg (fs : List Fn) (segs : List (List Tok)) (l : List Tok) : Prop := ∀ M : List Fn → List (List Tok) → List Tok → Prop, (∀ (f : Fn) (l : List Tok), FnSeg f l → M [f] [l] l) → (∀ (f : Fn) (l : List Tok) (y : Tok) (fs : List Fn) (segs : List (List Tok)) (m : List Tok), FnSeg f l → y.text = wComma → M fs segs m → M (f :: fs) (l :: segs) (l ++ y :: m)) → M fs segs l
theorem FunsSeg.one (f : Fn) (l : List Tok) (hf : FnSeg f l) : FunsSeg [f] [l] l := fun _ r0 _ => r0 f l hf
theorem FunsSeg.more (f : Fn) (l : List Tok) (y : Tok) (fs : List Fn) (segs : List (List Tok)) (m : List Tok) (hf : FnSeg f l) (hy : y.text = wComma) (h : FunsSeg fs segs m) : FunsSeg (f :: fs) (l :: segs) (l ++ y :: m) := fun M r0 r1 => r1 f l y fs segs m hf hy (h M r0 r1)
def TopSeg (ht : Bool) (tp : Int) (fr : Int) (tl : List Tok) : Prop := ∀ M : Bool → Int → Int → List Tok → Prop, (M false 0 0 []) → (∀ (x : Tok) (y : Tok), x.text = wTop → NTok y → M true (worth y.text) 0 [x, y]) → (∀ (x : Tok) (y : Tok) (a : Tok) (b : Tok), x.text = wTop → NTok y → a.text = wFrom → NTok b → M true (worth y.text) (worth b.text) [x, y, a, b]) → M ht tp fr tl
theorem TopSeg.none  : TopSeg false 0 0 [] := fun _ r0 _ _ => r0 
theorem TopSeg.top (x : Tok) (y : Tok) (hx : x.text = wTop) (hy : NTok y) : TopSeg true (worth y.text) 0 [x, y] := fun _ _ r1 _ => r1 x y hx hy
theorem TopSeg.frm (x : Tok) (y : Tok) (a : Tok) (b : Tok) (hx : x.text = wTop) (hy : NTok y) (ha : a.text = wFrom) (hb : NTok b) : TopSeg true (worth y.text) (worth b.text) [x, y, a, b] := fun _ _ _ r2 => r2 x y a b hx hy ha hb
/-- these texts hold just the columns that q tells -/
def Seen (seen : List Bytes) (q : Nat → Bool) : Prop := ∀ c, c < 3 → seen.contains (colTxt c) = q c
theorem Seen.of {seen : List Bytes} {q q' : Nat → Bool} (h : Seen seen q) (e : ∀ c, q c = q' c) : Seen seen q' := fun c hc => (h c hc).trans (e c)
/-! the whole -/
structure Parts where
  cs : List Nat
  ks : List (Nat × Bool)
  fs : List Fn
  hasTop : Bool
  top : Int
  frm : Int
  bh : List Tok
  bl : List Tok
  o : Tok
  kl : List Tok
  sh : Tok
  segs : List (List Tok)
  fl : List Tok
  tl : List Tok
structure PartsOk (toks : List Tok) (P : Parts) : Prop where
  toks : toks = P.bh ++ (P.bl ++ P.o :: (P.kl ++ P.sh :: (P.fl ++ P.tl)))
  by' : (P.bh = [] ∧ P.bl = [] ∧ P.cs = []) ∨ ∃ x, P.bh = [x] ∧ x.text = wBy ∧ ColsSeg P.cs P.bl
  o : P.o.text = wOrder
  keys : KeysSeg P.ks P.kl
  sh : P.sh.text = wShow
  funs : FunsSeg P.fs P.segs P.fl
  top : TopSeg P.hasTop P.top P.frm P.tl
end Pr
end Go.Proofs.YtcoofnhdbejnpaaGreatDoor

/- Plain functions: the plain form out of the tokens; where a word stands among them; how they are cut. -/
namespace Go.Proofs.YtcoofnhdbejnpaaGreatDoor
namespace Pr
open Pq
/-- without noughts ahead -/
def short : Bytes → Bytes
  | [] => []
  | [a] => [a]
  | a :: b :: r => if a == 48 then short (b :: r) else a :: b :: r
def heads : List Bytes := [wBy, wOrder, wShow, wTop, wFrom]
/-- neither a head word nor a sign -/
structure Inner (x : Tok) : Prop where
  head : x.text ∉ heads
theorem Inner.ne {x : Tok} (h : Inner x) {w : Bytes} (hw : w ∈ heads) : (x.text == w) = false := by
  simp only [beq_eq_false_iff_ne]; exact fun e => h.head (e ▸ hw)
structure Word (x : Tok) : Prop where
  opn : (x.text == wOpen) = false
  cls : (x.text == wClose) = false
  com : (x.text == wComma) = false
theorem Inner.of {x : Tok} {t : Bytes} (h : x.text = t) (ht : t ∉ heads) : Inner x := ⟨by rw [h]; exact ht⟩
theorem Word.of {x : Tok} {t : Bytes} (h : x.text = t) (h1 : (t == wOpen) = false) (h2 : (t == wClose) = false) (h3 : (t == wComma) = false) : Word x := ⟨by rw [h]; exact h1, by rw [h]; exact h2, by rw [h]; exact h3⟩
theorem NTok.numT {x : Tok} (h : NTok x) : numT x.text = true := by
  have h2 := h.dig; have h3 := h.ne
  cases ht : x.text with
  | nil => exact absurd ht h3
  | cons a r => rw [ht] at h2; exact h2 a (by simp)
theorem NTok.not {x : Tok} (h : NTok x) {t : Bytes} (ht : Pr.numT t = false) : x.text ≠ t := by
  intro e; have := h.numT; rw [e, ht] at this; cases this
theorem NTok.word {x : Tok} (h : NTok x) : Word x := ⟨by simpa using h.not (t := wOpen) (by decide), by simpa using h.not (t := wClose) (by decide), by simpa using h.not (t := wComma) (by decide)⟩
theorem col_ok : ∀ k, k < 3 → colTxt k ∉ heads ∧ (colTxt k == wOpen) = false ∧ (colTxt k == wClose) = false ∧ (colTxt k == wComma) = false ∧ short (colTxt k) = colTxt k := by decide
/-! edges, frames, functions -/
/-! lists -/
theorem cols_in {cs : List Nat} {l : List Tok} (h : ColsSeg cs l) : ∀ x ∈ l, Inner x := by
  induction cs, l, h using ColsSeg_ind with
  | one c x hc hx => intro z hz; cases List.mem_singleton.1 hz; exact .of hx (col_ok _ hc).1
  | more c x y cs l hc hx hy h ih =>
    intro z hz
    simp only [List.mem_cons] at hz
    rcases hz with rfl | rfl | hz
    · exact .of hx (col_ok _ hc).1
    · exact .of hy (by decide)
    · exact ih z hz
end Pr
end Go.Proofs.YtcoofnhdbejnpaaGreatDoor

/- Plain functions: the whole query's tokens: the plain form, the places of the words, the cut. -/
namespace Go.Proofs.YtcoofnhdbejnpaaGreatDoor
namespace Pr
open Pq
/-! where a word stands -/
def findT (t : Bytes) (l : List Tok) : Nat := l.findIdx (fun x => x.text == t)
theorem findT_skip {t : Bytes} {a b : List Tok} (h : ∀ x ∈ a, (x.text == t) = false) : findT t (a ++ b) = a.length + findT t b := by
  induction a with
  | nil => simp
  | cons x a ih =>
    have hx := h x (by simp)
    have := ih (fun y hy => h y (by simp [hy]))
    unfold findT at *
    rw [List.cons_append, List.findIdx_cons, hx]
    simp only [cond_false, List.length_cons, this]; omega
theorem findT_hit {t : Bytes} {x : Tok} {b : List Tok} (h : x.text = t) : findT t (x :: b) = 0 := by
  unfold findT; rw [List.findIdx_cons]; simp [h]
theorem mem_heads : wBy ∈ heads ∧ wOrder ∈ heads ∧ wShow ∈ heads ∧ wTop ∈ heads ∧ wFrom ∈ heads := by decide
/-- the tokens' number ahead of order, of show, and of what is behind the FUNCs -/
def Parts.nO (P : Parts) : Nat := P.bh.length + P.bl.length
def Parts.nS (P : Parts) : Nat := P.nO + 1 + P.kl.length
def Parts.nT (P : Parts) : Nat := P.nS + 1 + P.fl.length
theorem PartsOk.by_in {toks : List Tok} {P : Parts} (h : PartsOk toks P) {t : Bytes} (ht : t ∈ heads) (hn : wBy ≠ t) : (∀ x ∈ P.bh, (x.text == t) = false) ∧ ∀ x ∈ P.bl, (x.text == t) = false := by
  rcases h.by' with ⟨h1, h2, _⟩ | ⟨x, h1, h2, h3⟩
  · rw [h1, h2]; exact ⟨(fun _ q => by cases q), (fun _ q => by cases q)⟩
  · rw [h1]
    refine ⟨fun y hy => ?_, fun y hy => (cols_in h3 y hy).ne ht⟩
    cases List.mem_singleton.1 hy
    rw [h2]; simpa using hn
theorem PartsOk.order {toks : List Tok} {P : Parts} (h : PartsOk toks P) : findT wOrder toks = P.nO := by
  have hb := h.by_in mem_heads.2.1 (by decide)
  rw [h.toks, findT_skip hb.1, findT_skip hb.2, findT_hit h.o]; rfl
theorem PartsOk.len {toks : List Tok} {P : Parts} (h : PartsOk toks P) : toks.length = P.nT + P.tl.length := by
  rw [h.toks]; simp only [Parts.nT, Parts.nS, Parts.nO, List.length_append, List.length_cons]; omega
/-! the plain form -/
/-! the cut of the FUNCs -/
/-! many and arg -/
end Pr
end Go.Proofs.YtcoofnhdbejnpaaGreatDoor

