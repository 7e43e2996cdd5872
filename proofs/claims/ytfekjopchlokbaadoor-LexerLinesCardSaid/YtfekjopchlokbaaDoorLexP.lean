/-
  Plain words of a text's lines: its words, each with its place, or the first byte that may not be. No program is named here.
-/
import Derived.Test.YtfekjopchlokbaaDoorSecQ
namespace Go.Proofs.YtfekjopchlokbaaDoor

/-- A text's byte, as a number. -/
def byL (s : ByteArray) (i : Nat) : Int := (((bl s).getD i 0).toNat : Int)
theorem byL_at (s : ByteArray) (i : Nat) (h : i < s.size) : ((s[i]'h).toNat : Int) = byL s i := by
  have h2 : i < (bl s).length := by rw [bl_len]; exact h
  unfold byL
  rw [List.getD_eq_getElem?_getD, List.getElem?_eq_getElem h2]
  rfl
/-- A word, and its place. -/
structure Wd where
  t : ByteArray
  p : Nat
/-- What is held: the lines that are done, the line, the word. -/
structure LxS where
  out : List (List Wd)
  line : List Wd
  word : ByteArray
  at_ : Nat
/-- What a text has: a fault (its number, its place), or lines. -/
inductive LxR where
  | bad (e p : Nat)
  | good (l : List (List Wd))
def isW (c : Nat) : Bool := decide (32 < c) && decide (c < 127)
/-- The line, its last word done. -/
def LxS.done (st : LxS) : List Wd := if st.word = .empty then st.line else st.line ++ [⟨st.word, st.at_⟩]
/-- Behind a byte of a word; a space; a line's end. -/
def LxS.push (st : LxS) (b : ByteArray) (i : Nat) : LxS := { st with word := st.word ++ b, at_ := if st.word = .empty then i else st.at_ }
def LxS.space (st : LxS) : LxS := { out := st.out, line := st.done, word := .empty, at_ := if st.word = .empty then st.at_ else 0 }
def LxS.feed (st : LxS) : LxS := { out := if st.done = [] then st.out else st.out ++ [st.done], line := [], word := .empty, at_ := if st.word = .empty then st.at_ else 0 }
/-- From place k on. -/
def lexGo (s : ByteArray) : Nat → Nat → LxS → LxR
  | 0, _, st => .good st.feed.out
  | f + 1, k, st =>
    if isW (byL s k).toNat then lexGo s f (k + 1) (st.push (s.extract k (k + 1)) k)
    else if byL s k = 10 then lexGo s f (k + 1) st.feed
    else if byL s k = 32 then lexGo s f (k + 1) st.space
    else .bad 3 k
def lx0 : LxS := ⟨[], [], .empty, 0⟩
/-- What any text has. -/
def lexP (s : ByteArray) : LxR := if 600 < s.size then .bad 16 600 else lexGo s s.size 0 lx0
theorem lexGo_end (s : ByteArray) (k : Nat) (st : LxS) : lexGo s 0 k st = .good st.feed.out := rfl
theorem lexGo_word {s : ByteArray} {f k : Nat} {st : LxS} (h : 32 < byL s k) (h2 : byL s k < 127) : lexGo s (f + 1) k st = lexGo s f (k + 1) (st.push (s.extract k (k + 1)) k) := by
  have : isW (byL s k).toNat = true := by unfold isW; simp; omega
  rw [lexGo, if_pos this]
theorem not_isW {c : Int} (h : ¬ (32 < c ∧ c < 127)) : ¬ isW c.toNat = true := by
  unfold isW
  simp only [Bool.and_eq_true, decide_eq_true_eq]
  omega
theorem byL_nat (s : ByteArray) (k : Nat) : 0 ≤ byL s k := Int.natCast_nonneg _
theorem lexGo_feed {s : ByteArray} {f k : Nat} {st : LxS} (h : byL s k = 10) : lexGo s (f + 1) k st = lexGo s f (k + 1) st.feed := by
  rw [lexGo, if_neg (not_isW (by omega)), if_pos h]
theorem lexGo_space {s : ByteArray} {f k : Nat} {st : LxS} (h : byL s k = 32) : lexGo s (f + 1) k st = lexGo s f (k + 1) st.space := by
  rw [lexGo, if_neg (not_isW (by omega)), if_neg (by omega), if_pos h]
theorem lexGo_bad {s : ByteArray} {f k : Nat} {st : LxS} (h : ¬ (32 < byL s k ∧ byL s k < 127)) (h1 : byL s k ≠ 10) (h2 : byL s k ≠ 32) : lexGo s (f + 1) k st = .bad 3 k := by
  rw [lexGo, if_neg (not_isW h), if_neg h1, if_neg h2]
section
variable {so : List (List Wd)} {sl : List Wd} {sw : ByteArray} {sa : Nat}
theorem push_empty (b : ByteArray) (i : Nat) : (⟨so, sl, .empty, sa⟩ : LxS).push b i = ⟨so, sl, b, i⟩ := by
  unfold LxS.push
  simp
theorem push_more (h : ¬ sw = .empty) (b : ByteArray) (i : Nat) : (⟨so, sl, sw, sa⟩ : LxS).push b i = ⟨so, sl, sw ++ b, sa⟩ := by
  unfold LxS.push
  simp only [if_neg h]
theorem space_empty : (⟨so, sl, .empty, sa⟩ : LxS).space = ⟨so, sl, .empty, sa⟩ := by
  unfold LxS.space LxS.done
  simp
theorem space_more (h : ¬ sw = .empty) : (⟨so, sl, sw, sa⟩ : LxS).space = ⟨so, sl ++ [⟨sw, sa⟩], .empty, 0⟩ := by
  unfold LxS.space LxS.done
  simp only [if_neg h]
theorem feed_none : (⟨so, [], .empty, sa⟩ : LxS).feed = ⟨so, [], .empty, sa⟩ := by
  unfold LxS.feed LxS.done
  simp
theorem feed_line (h : ¬ sl = []) : (⟨so, sl, .empty, sa⟩ : LxS).feed = ⟨so ++ [sl], [], .empty, sa⟩ := by
  unfold LxS.feed LxS.done
  simp [h]
theorem feed_more (h : ¬ sw = .empty) : (⟨so, sl, sw, sa⟩ : LxS).feed = ⟨so ++ [sl ++ [⟨sw, sa⟩]], [], .empty, 0⟩ := by
  unfold LxS.feed LxS.done
  simp only [if_neg h]
  rw [if_neg (by simp)]
end
end Go.Proofs.YtfekjopchlokbaaDoor
