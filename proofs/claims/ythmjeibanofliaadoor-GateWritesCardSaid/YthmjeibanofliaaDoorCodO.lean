/-
  The program's Writer: Text, Label. Conditions: how the Writer and the lists lie, what the package-level variables hold, lengths.
-/
import Derived.Test.YthmjeibanofliaaDoorCodZ
namespace Go.Proofs.YthmjeibanofliaaDoor
open Go.RowKit
section
variable {w : World} {O : List Nat} {P : Nat} {t : ByteArray}
theorem ints_made (w : World) (l : List Int) : IntsAt (w.alloc (.cells (l.map (Value.int .i64)).toArray 3)) (some ⟨w.heap.size, 0, none⟩) l := fun _ => ⟨_, rfl, fun i n h => by
  have hadd : (⟨w.heap.size, 0, none⟩ : Addr).add i = ⟨w.heap.size, i, none⟩ := by unfold Addr.add; split <;> simp_all
  rw [hadd]
  have := cellH (made_at w (.cells (l.map (Value.int .i64)).toArray 3)) i
  rw [this]
  simp [h]⟩
theorem off_new (h : WrV w O P t) : Off (some ⟨w.heap.size, 0, none⟩) O := fun ad e hm => by
  obtain rfl := Option.some.inj e
  have := h.wr.low.2 _ hm
  exact absurd this (Nat.lt_irrefl _)
end
end Go.Proofs.YthmjeibanofliaaDoor
