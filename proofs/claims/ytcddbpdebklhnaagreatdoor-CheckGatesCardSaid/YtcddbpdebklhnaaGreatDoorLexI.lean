/-
  The program's parts, and the function that it hands back: what is asked of one that is gone over. Conditions: lengths.
-/
import Derived.Test.YtcddbpdebklhnaaGreatDoorLexT
import Derived.Test.YtcddbpdebklhnaaGreatDoorLexC
import Derived.Test.YtcddbpdebklhnaaGreatDoorRng
import Derived.Test.YtcddbpdebklhnaaGreatDoorShelf
import Derived.Shelf.RegionOpen
import Derived.Shelf.Abstract
import Derived.WalkKit
import Derived.OwnWalkIn
import Derived.TacticsInMore
import Derived.LoopNIn
import Derived.LoopIn
import Derived.IntWalk
namespace Go.Proofs.YtcddbpdebklhnaaGreatDoor
open Go.RowKit Go.Shelf

attribute [local go_sem] Oper.semAt_some

/-- A word, as a value. -/
abbrev wdV (t : ByteArray) (p : Int) : Value := .agg #[.string t, .int .i64 p]
def encW (ps : List Wd) (k : Nat) : Array Value := #[wdV (ps.getD k ⟨.empty, 0⟩).t (ps.getD k ⟨.empty, 0⟩).p]
/-- How much of a variable's text is left. -/
def leftAt (w : World) (B : Nat) : Nat := match w.cell? ⟨B, 0, none⟩ with
  | some (.string t) => t.size
  | _ => 0
theorem leftAt_is {w : World} {B : Nat} {t : ByteArray} {v : Value} {T : TypeId} (h : w.heap[B]? = some (.cells #[.string t, v] T (0, 0))) : leftAt w B = t.size := by
  unfold leftAt
  rw [cellH h 0]
  rfl
def ownB (B : Nat) (b : Nat) : Prop := b = B ∨ b = B + 1

/-- The variable has a new word. -/
theorem box_new {W : World} {B : Nat} {x y z v v1 u u1 : Value} {T T2 : TypeId} (h : W.heap[B]? = some (.cells #[x, y] T (0, 0))) (h2 : W.heap[B + 1]? = some (.cells #[z] T2 (0, 0))) :
    ((((W.setCell ⟨B, 0, none⟩ v).setCell ⟨B, 1, none⟩ v1).setCell ⟨B, 0, none⟩ u).setCell ⟨B, 1, none⟩ u1).drew.heap[B]? = some (.cells #[u, u1] T (0, 0)) ∧
    ((((W.setCell ⟨B, 0, none⟩ v).setCell ⟨B, 1, none⟩ v1).setCell ⟨B, 0, none⟩ u).setCell ⟨B, 1, none⟩ u1).drew.heap[B + 1]? = some (.cells #[z] T2 (0, 0)) ∧
    Apart (ownB B) W ((((W.setCell ⟨B, 0, none⟩ v).setCell ⟨B, 1, none⟩ v1).setCell ⟨B, 0, none⟩ u).setCell ⟨B, 1, none⟩ u1).drew := by
  have o : ∀ (V : World) (i : Nat) (x : Value), (V.setCell ⟨B, i, none⟩ x).heap[B + 1]? = V.heap[B + 1]? := fun V i x => Below.heap_setCell V ⟨B, i, none⟩ x (B + 1) (by show B + 1 ≠ B; omega)
  have a : ∀ (V : World) (i : Nat) (x : Value), Apart (ownB B) V (V.setCell ⟨B, i, none⟩ x) := fun V i x => Apart.set (.inl rfl)
  refine ⟨?_, ?_, ((((a _ _ _).trans (a _ _ _)).trans (a _ _ _)).trans (a _ _ _)).trans Apart.drew⟩
  · exact (row_set (row_set (row_set (row_set h)))).trans (by simp)
  · show ((((W.setCell ⟨B, 0, none⟩ v).setCell ⟨B, 1, none⟩ v1).setCell ⟨B, 0, none⟩ u).setCell ⟨B, 1, none⟩ u1).heap[B + 1]? = _
    rw [o, o, o, o]
    exact h2

section
variable {w : World} {s : ByteArray} {p B : Nat} {c : UInt8}
end
end Go.Proofs.YtcddbpdebklhnaaGreatDoor
