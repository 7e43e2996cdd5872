/-
  What the document's SameTexts and Lay (package lockageref04), and the laws' like, answer. No conditions but how the lists lie in memory.
-/
import Derived.Test.YthmjeibanofliaaDoorSecA
import Derived.BigRegion
namespace Go.Proofs.YthmjeibanofliaaDoor
open Go.RowKit

/-- The texts L stand at A. -/
def TextsAt (w : World) (A : Option Addr) (L : List ByteArray) : Prop := 0 < L.length → ∃ ad, A = some ad ∧ ∀ i s, L[i]? = some s → w.cell? (ad.add i) = some (.string s)

theorem ba_beq (s t : ByteArray) : (s.toList == t.toList) = decide (s = t) := by
  have e : ∀ x : ByteArray, x.toList = x.data.toList := fun x => Go.ByteArray.toList_eq x
  rw [Bool.eq_iff_iff]
  simp only [beq_iff_eq, decide_eq_true_eq, e]
  constructor
  · intro h
    exact ByteArray.ext (Array.toList_inj.1 h)
  · intro h
    rw [h]

end Go.Proofs.YthmjeibanofliaaDoor
