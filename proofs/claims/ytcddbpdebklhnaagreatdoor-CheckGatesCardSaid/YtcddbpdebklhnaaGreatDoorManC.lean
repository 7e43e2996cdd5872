/-
  What the document's Names (package lockageref07) answers: a word's parts between commas, in a row of its own, or the place of the first that is no name. Conditions: a word of a million bytes at most, at a place below a million.
-/
import Derived.Test.YtcddbpdebklhnaaGreatDoorManB
import Derived.Test.YtcddbpdebklhnaaGreatDoorLexD
import Derived.BigRegion
namespace Go.Proofs.YtcddbpdebklhnaaGreatDoor
open Go.RowKit

theorem namesGo_end (s : ByteArray) (p fr i : Nat) (out : List Wd) : namesGo s p 0 fr i out = if nameP (s.extract fr i) then .inl (out ++ [⟨s.extract fr i, p + fr⟩]) else .inr (p + fr) := rfl
theorem namesGo_comma {s : ByteArray} {p f fr i : Nat} {out : List Wd} (h : byL s i = 44) : namesGo s p (f + 1) fr i out = if nameP (s.extract fr i) then namesGo s p f (i + 1) (i + 1) (out ++ [⟨s.extract fr i, p + fr⟩]) else .inr (p + fr) := by rw [namesGo, if_pos h]
theorem namesGo_on {s : ByteArray} {p f fr i : Nat} {out : List Wd} (h : byL s i ≠ 44) : namesGo s p (f + 1) fr i out = namesGo s p f fr (i + 1) out := by rw [namesGo, if_neg h]
/-- From place i on; behind the end: what there is. -/
def namesAt (s : ByteArray) (p fr i : Nat) (out : List Wd) : List Wd ⊕ Nat := if i ≤ s.size then namesGo s p (s.size - i) fr i out else .inl out

theorem namesAt_in {s : ByteArray} {p fr i : Nat} {out : List Wd} (h : i ≤ s.size) : namesAt s p fr i out = namesGo s p (s.size - i) fr i out := if_pos h
theorem namesAt_out {s : ByteArray} {p fr i : Nat} {out : List Wd} (h : ¬ i ≤ s.size) : namesAt s p fr i out = .inl out := if_neg h

end Go.Proofs.YtcddbpdebklhnaaGreatDoor
