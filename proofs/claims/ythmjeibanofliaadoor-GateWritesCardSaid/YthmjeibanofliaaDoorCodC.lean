/-
  What the document's Reader.Int (package lockageref06) answers and leaves, of one that has met nothing wrong. No conditions but how the reader lies, and a text's length.
-/
import Derived.Test.YthmjeibanofliaaDoorCodB
import Derived.Test.YthmjeibanofliaaDoorCodR
import Derived.Deep.WholeRow
namespace Go.Proofs.YthmjeibanofliaaDoor
open Go.RowKit

/-- Only block R may have turned; new ones may be there. -/
structure Only1 (R : Nat) (w w' : World) : Prop where
  os : w'.os = w.os
  tape : w'.tape = w.tape
  output : w'.output = w.output
  size : w.heap.size ≤ w'.heap.size
  block : ∀ i, i < w.heap.size → i ≠ R → w'.heap[i]? = w.heap[i]?
theorem Only1.of_below {R : Nat} {w w' : World} (h : Below w.heap.size w w') : Only1 R w w' := ⟨h.os, h.tape, h.output, h.size, fun i hi _ => h.block i hi⟩
theorem Only1.trans {R : Nat} {a b c : World} (h : Only1 R a b) (k : Only1 R b c) : Only1 R a c :=
  ⟨k.os.trans h.os, k.tape.trans h.tape, k.output.trans h.output, Nat.le_trans h.size k.size, fun i hi hn => (k.block i (Nat.lt_of_lt_of_le hi h.size) hn).trans (h.block i hi hn)⟩
theorem Only1.set {R i : Nat} {w : World} (v : Value) : Only1 R w (w.setCell ⟨R, i, none⟩ v) := by
  have hs : (w.setCell ⟨R, i, none⟩ v).heap.size = w.heap.size := by simp [World.setCell]
  exact ⟨rfl, rfl, rfl, by rw [hs]; exact Nat.le_refl _, fun j _ hn => Below.heap_setCell w ⟨R, i, none⟩ v j (by simpa using hn)⟩
theorem row_set {w : World} {g : Nat} {cs : Array Value} {t : TypeId} {m : Nat × Nat} (hg : w.heap[g]? = some (.cells cs t m)) {i : Nat} {v : Value} : (w.setCell ⟨g, i, none⟩ v).heap[g]? = some (.cells (cs.setIfInBounds i v) t m) := by
  rw [setCell_eq_setRow w g i cs t m v hg]
  exact setRow_heap _ _ _ _ _ _ hg
/-- What is answered, and left. -/
def rdN (r : Option (Int × List UInt8)) : Int := match r with | some (n, _) => n | none => 0
def rdS (S : ByteArray) (r : Option (Int × List UInt8)) : ByteArray := match r with | some (_, x) => ofL x | none => S
theorem some_comma {S : ByteArray} {lo hi m : Int} {rest : List UInt8} (h : Takes (bl S) lo hi (some (m, rest))) : ∃ j, j ≤ 20 ∧ j < S.size ∧ byI S j = 44 := by
  rcases h with ⟨n, x, a1, a2, a3, _, _, e⟩ | ⟨_, e⟩
  · have hl := headT_len a1 a2
    have hk : (bl S)[(headT n).length]? = some 44 := by
      rw [a3, numT_head, List.append_assoc, List.getElem?_append_right (Nat.le_refl _), Nat.sub_self]
      rfl
    have hlt := (List.getElem?_eq_some_iff.1 hk).1
    rw [bl_len] at hlt
    obtain ⟨c, h1, h2⟩ := byI_get hlt
    rw [hk] at h1
    obtain rfl := Option.some.inj h1
    exact ⟨_, hl.2, hlt, h2⟩
  · cases e
theorem byI_comma {S : ByteArray} {k : Nat} (hk : k < S.size) (h : byI S k = 44) : (bl S)[k]? = some 44 := by
  obtain ⟨c, h1, h2⟩ := byI_get hk
  rw [h1, byte_is (c := c) (k := 44) (by omega) (by omega)]
  rfl

section
variable {w : World} {R : Nat} {S : ByteArray}
end
end Go.Proofs.YthmjeibanofliaaDoor
