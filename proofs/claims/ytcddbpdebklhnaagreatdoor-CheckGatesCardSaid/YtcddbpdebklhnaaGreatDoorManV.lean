/-
  What the document's Right (package lockageref08) answers of a pipeline that may be. No conditions.
-/
import Derived.Test.YtcddbpdebklhnaaGreatDoorManT
import Derived.Test.YtcddbpdebklhnaaGreatDoorManN
import Derived.Test.YtcddbpdebklhnaaGreatDoorLabelG
namespace Go.Proofs.YtcddbpdebklhnaaGreatDoor
open Go.RowKit

theorem nodup_ne {α : Type} {l : List α} (h : l.Nodup) {i j : Nat} {a b : α} (hi : l[i]? = some a) (hj : l[j]? = some b) (hij : i ≠ j) : a ≠ b := by
  rw [List.nodup_iff_pairwise_ne, List.pairwise_iff_getElem] at h
  obtain ⟨h1, rfl⟩ := List.getElem?_eq_some_iff.1 hi
  obtain ⟨h2, rfl⟩ := List.getElem?_eq_some_iff.1 hj
  rcases Nat.lt_or_gt_of_ne hij with h3 | h3
  · exact h i j h1 h2 h3
  · exact (h j i h2 h1 h3).symm
section
variable {w : World} {A : Option Addr} {c : Nat} {n : ByteArray} {ts : List TkP}
end
end Go.Proofs.YtcddbpdebklhnaaGreatDoor
