/-
  Plain words of a text's lines: its words, each with its place, or the first byte that may not be. No program is named here. A text's words lie in it where they are said to lie, and there are not too many of them. No program is named here.
-/
import Derived.Test.YtcddbpdebklhnaaGreatDoorCodP
namespace Go.Proofs.YtcddbpdebklhnaaGreatDoor

/-- A text's byte, as a number. -/
def byL (s : ByteArray) (i : Nat) : Int := (((bl s).getD i 0).toNat : Int)
theorem byL_at (s : ByteArray) (i : Nat) (h : i < s.size) : ((s[i]'h).toNat : Int) = byL s i := by
  have h2 : i < (bl s).length := by rw [bl_len]; exact h
  unfold byL
  rw [List.getD_eq_getElem?_getD, List.getElem?_eq_getElem h2]
  rfl
/-- A word, and its place. -/
structure Wd where
  t : ByteArray
  p : Nat
/-- What is held: the lines that are done, the line, the word. -/
structure LxS where
  out : List (List Wd)
  line : List Wd
  word : ByteArray
  at_ : Nat
/-- What a text has: a fault (its number, its place), or lines. -/
inductive LxR where
  | bad (e p : Nat)
  | good (l : List (List Wd))
def isW (c : Nat) : Bool := decide (32 < c) && decide (c < 127)
/-- The line, its last word done. -/
def LxS.done (st : LxS) : List Wd := if st.word = .empty then st.line else st.line ++ [⟨st.word, st.at_⟩]
/-- Behind a byte of a word; a space; a line's end. -/
def LxS.push (st : LxS) (b : ByteArray) (i : Nat) : LxS := { st with word := st.word ++ b, at_ := if st.word = .empty then i else st.at_ }
def LxS.space (st : LxS) : LxS := { out := st.out, line := st.done, word := .empty, at_ := if st.word = .empty then st.at_ else 0 }
def LxS.feed (st : LxS) : LxS := { out := if st.done = [] then st.out else st.out ++ [st.done], line := [], word := .empty, at_ := if st.word = .empty then st.at_ else 0 }
/-- From place k on. -/
def lexGo (s : ByteArray) : Nat → Nat → LxS → LxR
  | 0, _, st => .good st.feed.out
  | f + 1, k, st =>
    if isW (byL s k).toNat then lexGo s f (k + 1) (st.push (s.extract k (k + 1)) k)
    else if byL s k = 10 then lexGo s f (k + 1) st.feed
    else if byL s k = 32 then lexGo s f (k + 1) st.space
    else .bad 3 k
def lx0 : LxS := ⟨[], [], .empty, 0⟩
/-- What any text has. -/
def lexP (s : ByteArray) : LxR := if 600 < s.size then .bad 16 600 else lexGo s s.size 0 lx0
theorem lexGo_end (s : ByteArray) (k : Nat) (st : LxS) : lexGo s 0 k st = .good st.feed.out := rfl
theorem lexGo_word {s : ByteArray} {f k : Nat} {st : LxS} (h : 32 < byL s k) (h2 : byL s k < 127) : lexGo s (f + 1) k st = lexGo s f (k + 1) (st.push (s.extract k (k + 1)) k) := by
  have : isW (byL s k).toNat = true := by unfold isW; simp; omega
  rw [lexGo, if_pos this]
theorem not_isW {c : Int} (h : ¬ (32 < c ∧ c < 127)) : ¬ isW c.toNat = true := by
  unfold isW
  simp only [Bool.and_eq_true, decide_eq_true_eq]
  omega
theorem byL_nat (s : ByteArray) (k : Nat) : 0 ≤ byL s k := Int.natCast_nonneg _
theorem lexGo_feed {s : ByteArray} {f k : Nat} {st : LxS} (h : byL s k = 10) : lexGo s (f + 1) k st = lexGo s f (k + 1) st.feed := by
  rw [lexGo, if_neg (not_isW (by omega)), if_pos h]
theorem lexGo_space {s : ByteArray} {f k : Nat} {st : LxS} (h : byL s k = 32) : lexGo s (f + 1) k st = lexGo s f (k + 1) st.space := by
  rw [lexGo, if_neg (not_isW (by omega)), if_neg (by omega), if_pos h]
theorem lexGo_bad {s : ByteArray} {f k : Nat} {st : LxS} (h : ¬ (32 < byL s k ∧ byL s k < 127)) (h1 : byL s k ≠ 10) (h2 : byL s k ≠ 32) : lexGo s (f + 1) k st = .bad 3 k := by
  rw [lexGo, if_neg (not_isW h), if_neg h1, if_neg h2]
section
variable {so : List (List Wd)} {sl : List Wd} {sw : ByteArray} {sa : Nat}
theorem push_empty (b : ByteArray) (i : Nat) : (⟨so, sl, .empty, sa⟩ : LxS).push b i = ⟨so, sl, b, i⟩ := by
  unfold LxS.push
  simp
theorem push_more (h : ¬ sw = .empty) (b : ByteArray) (i : Nat) : (⟨so, sl, sw, sa⟩ : LxS).push b i = ⟨so, sl, sw ++ b, sa⟩ := by
  unfold LxS.push
  simp only [if_neg h]
theorem space_empty : (⟨so, sl, .empty, sa⟩ : LxS).space = ⟨so, sl, .empty, sa⟩ := by
  unfold LxS.space LxS.done
  simp
theorem space_more (h : ¬ sw = .empty) : (⟨so, sl, sw, sa⟩ : LxS).space = ⟨so, sl ++ [⟨sw, sa⟩], .empty, 0⟩ := by
  unfold LxS.space LxS.done
  simp only [if_neg h]
theorem feed_none : (⟨so, [], .empty, sa⟩ : LxS).feed = ⟨so, [], .empty, sa⟩ := by
  unfold LxS.feed LxS.done
  simp
theorem feed_line (h : ¬ sl = []) : (⟨so, sl, .empty, sa⟩ : LxS).feed = ⟨so ++ [sl], [], .empty, sa⟩ := by
  unfold LxS.feed LxS.done
  simp [h]
theorem feed_more (h : ¬ sw = .empty) : (⟨so, sl, sw, sa⟩ : LxS).feed = ⟨so ++ [sl ++ [⟨sw, sa⟩]], [], .empty, 0⟩ := by
  unfold LxS.feed LxS.done
  simp only [if_neg h]
  rw [if_neg (by simp)]
end
end Go.Proofs.YtcddbpdebklhnaaGreatDoor

namespace Go.Proofs.YtcddbpdebklhnaaGreatDoor

/-- The word lies in the text at its place. -/
def Lies (s : ByteArray) (x : Wd) : Prop := x.p + x.t.size ≤ s.size ∧ s.extract x.p (x.p + x.t.size) = x.t
structure LxOk (s : ByteArray) (k : Nat) (st : LxS) : Prop where
  o1 : st.out.length ≤ k
  o2 : ∀ l ∈ st.out, l.length ≤ k ∧ ∀ x ∈ l, Lies s x
  l1 : st.line.length ≤ k
  l2 : ∀ x ∈ st.line, Lies s x
  w1 : st.word ≠ .empty → st.at_ ≤ k ∧ st.word = s.extract st.at_ k
section
variable {s : ByteArray} {k : Nat} {st : LxS}
theorem ok_done (h : LxOk s k st) (hk : k ≤ s.size) : st.done.length ≤ k + 1 ∧ ∀ x ∈ st.done, Lies s x := by
  unfold LxS.done
  have h1 := h.l1
  by_cases hw : st.word = .empty
  · rw [if_pos hw]
    exact ⟨by omega, h.l2⟩
  · rw [if_neg hw]
    obtain ⟨ha, he⟩ := h.w1 hw
    refine ⟨by simp; omega, fun x hx => ?_⟩
    rcases List.mem_append.1 hx with hx | hx
    · exact h.l2 x hx
    · obtain rfl := List.mem_singleton.1 hx
      have hs : st.word.size = k - st.at_ := by rw [he, ByteArray.size_extract]; omega
      refine ⟨by show st.at_ + st.word.size ≤ s.size; omega, ?_⟩
      show s.extract st.at_ (st.at_ + st.word.size) = st.word
      rw [show st.at_ + st.word.size = k by omega, ← he]
theorem ok_push (h : LxOk s k st) : LxOk s (k + 1) (st.push (s.extract k (k + 1)) k) := by
  have h1 := h.l1
  have h2 := h.o1
  refine ⟨Nat.le_succ_of_le h2, fun l hl => ⟨Nat.le_succ_of_le (h.o2 l hl).1, (h.o2 l hl).2⟩, Nat.le_succ_of_le h1, h.l2, fun _ => ?_⟩
  show (if st.word = .empty then k else st.at_) ≤ k + 1 ∧ st.word ++ s.extract k (k + 1) = s.extract (if st.word = .empty then k else st.at_) (k + 1)
  by_cases hw : st.word = .empty
  · rw [if_pos hw, hw]
    exact ⟨by omega, ByteArray.empty_append⟩
  · rw [if_neg hw]
    obtain ⟨ha, he⟩ := h.w1 hw
    refine ⟨by omega, ?_⟩
    rw [he]
    apply bl_inj
    rw [bl_append, bl_extract, bl_extract, bl_extract]
    rw [List.drop_take, List.drop_take, List.drop_take]
    rw [show k + 1 - st.at_ = (k - st.at_) + 1 by omega, List.take_add (l := (bl s).drop st.at_), List.drop_drop, show st.at_ + (k - st.at_) = k by omega, show k + 1 - k = 1 by omega]
theorem ok_space (h : LxOk s k st) (hk : k ≤ s.size) : LxOk s (k + 1) st.space := by
  obtain ⟨d1, d2⟩ := ok_done h hk
  exact ⟨Nat.le_succ_of_le h.o1, fun l hl => ⟨Nat.le_succ_of_le (h.o2 l hl).1, (h.o2 l hl).2⟩, d1, d2, fun hn => absurd rfl hn⟩
theorem ok_feed (h : LxOk s k st) (hk : k ≤ s.size) : LxOk s (k + 1) st.feed := by
  obtain ⟨d1, d2⟩ := ok_done h hk
  have h2 := h.o1
  refine ⟨?_, ?_, Nat.zero_le _, fun x hx => absurd hx (by show x ∉ []; simp), fun hn => absurd rfl hn⟩
  · show (if st.done = [] then st.out else st.out ++ [st.done]).length ≤ k + 1
    split
    · omega
    · simp; omega
  · show ∀ l ∈ (if st.done = [] then st.out else st.out ++ [st.done]), l.length ≤ k + 1 ∧ ∀ x ∈ l, Lies s x
    intro l hl
    split at hl
    · exact ⟨Nat.le_succ_of_le (h.o2 l hl).1, (h.o2 l hl).2⟩
    · rcases List.mem_append.1 hl with hl | hl
      · exact ⟨Nat.le_succ_of_le (h.o2 l hl).1, (h.o2 l hl).2⟩
      · obtain rfl := List.mem_singleton.1 hl
        exact ⟨d1, d2⟩
end
theorem lexGo_ok (s : ByteArray) : ∀ (f k : Nat) (st : LxS) (L : List (List Wd)), k + f = s.size → LxOk s k st → lexGo s f k st = .good L → L.length ≤ s.size + 1 ∧ ∀ l ∈ L, l.length ≤ s.size + 1 ∧ ∀ x ∈ l, Lies s x
  | 0, k, st, L, hk, h, e => by
    have h2 := ok_feed h (by omega)
    obtain rfl : st.feed.out = L := by
      rw [lexGo_end] at e
      injection e
    obtain rfl : k = s.size := by omega
    exact ⟨h2.o1, h2.o2⟩
  | f + 1, k, st, L, hk, h, e => by
    by_cases h1 : 32 < byL s k ∧ byL s k < 127
    · rw [lexGo_word h1.1 h1.2] at e
      exact lexGo_ok s f (k + 1) _ L (by omega) (ok_push h) e
    · by_cases h2 : byL s k = 10
      · rw [lexGo_feed h2] at e
        exact lexGo_ok s f (k + 1) _ L (by omega) (ok_feed h (by omega)) e
      · by_cases h3 : byL s k = 32
        · rw [lexGo_space h3] at e
          exact lexGo_ok s f (k + 1) _ L (by omega) (ok_space h (by omega)) e
        · rw [lexGo_bad h1 h2 h3] at e
          cases e
theorem lexP_ok {s : ByteArray} {L : List (List Wd)} (h : lexP s = .good L) : L.length ≤ s.size + 1 ∧ ∀ l ∈ L, l.length ≤ s.size + 1 ∧ ∀ x ∈ l, Lies s x := by
  unfold lexP at h
  split at h
  · cases h
  · exact lexGo_ok s s.size 0 lx0 L (by omega) ⟨Nat.le_refl _, fun l hl => absurd hl (by show l ∉ []; simp), Nat.le_refl _, fun l hl => absurd hl (by show l ∉ []; simp), fun hn => absurd rfl hn⟩ h
theorem lexGo_wrong (s : ByteArray) : ∀ (f k : Nat) (st : LxS) (x p : Nat), lexGo s f k st = .bad x p → x = 3
  | 0, k, st, x, p, e => by rw [lexGo_end] at e; cases e
  | f + 1, k, st, x, p, e => by
    by_cases h1 : 32 < byL s k ∧ byL s k < 127
    · rw [lexGo_word h1.1 h1.2] at e
      exact lexGo_wrong s f _ _ x p e
    · by_cases h2 : byL s k = 10
      · rw [lexGo_feed h2] at e
        exact lexGo_wrong s f _ _ x p e
      · by_cases h3 : byL s k = 32
        · rw [lexGo_space h3] at e
          exact lexGo_wrong s f _ _ x p e
        · rw [lexGo_bad h1 h2 h3] at e
          injection e with e1 _
          exact e1.symm
theorem lexP_bad {s : ByteArray} {x p : Nat} (h : lexP s = .bad x p) : (x : Int) ≠ 0 := by
  unfold lexP at h
  split at h
  · injection h with e1 _
    omega
  · have := lexGo_wrong s _ _ _ x p h
    omega
end Go.Proofs.YtcddbpdebklhnaaGreatDoor
