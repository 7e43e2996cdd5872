/-
  The law CodecOne, walked. No conditions but the numbers' types, and what the package-level variables hold.
-/
import Derived.Test.YthmjeibanofliaaDoorCodG
import Derived.Test.YthmjeibanofliaaDoorKept
namespace Go.Proofs.YthmjeibanofliaaDoor
open Go.RowKit

theorem keepV : ∀ v v' : World, VarsAt v → Below v.heap.size v v' → VarsAt v' := fun _ _ h hb => h.later hb
theorem WrV.beside {w w' : World} {O O' : List Nat} {P : Nat} {t : ByteArray} (h : WrV w O P t) (ho : OnlyO O' w w') (hd : ∀ i ∈ O, i ∉ O') (hV : VarsAt w') : WrV w' O P t := ⟨h.wr.beside ho hd, hV, h.no⟩
theorem ints_one (n : Int) : intsX .empty [n] = numX n := by
  apply bl_inj
  simp only [intsX, List.foldl]
  rw [bl_append]
  rfl
/-- Unlike numbers' texts stay unlike, however far they are read. -/
theorem num_apart {a b : Int} (h : a ≠ b) (k : Nat) (hk : k = min (numX a).size (numX b).size) : (numX a).extract 0 k ≠ (numX b).extract 0 k := by
  intro e
  have e2 := congrArg bl e
  rw [bl_extract, bl_extract, List.drop_zero, List.drop_zero] at e2
  have la := bl_len (numX a)
  have lb := bl_len (numX b)
  rw [bl_numX] at e2 la
  rw [bl_numX] at e2 lb
  apply h
  by_cases hle : (numX a).size ≤ (numX b).size
  · have hk2 : k = (numT a).length := by omega
    rw [List.take_of_length_le (l := numT a) (by omega)] at e2
    have := List.take_append_drop k (numT b)
    rw [← e2] at this
    exact (numT_front (y := []) (this.trans (List.append_nil _).symm)).1
  · have hk2 : k = (numT b).length := by omega
    rw [List.take_of_length_le (l := numT b) (by omega)] at e2
    have := List.take_append_drop k (numT a)
    rw [e2] at this
    exact (numT_front (y := []) (this.trans (List.append_nil _).symm)).1.symm

section
variable {w : World}
end
end Go.Proofs.YthmjeibanofliaaDoor
