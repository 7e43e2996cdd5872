/-
  What the document's Lines (package lockageref07) answers: any text's lines, or where it is wrong. No conditions.
-/
import Derived.Test.YtcddbpdebklhnaaGreatDoorProg
import Derived.Test.YtcddbpdebklhnaaGreatDoorLexC
import Derived.Deep.DeepCutAuto
import Derived.BigRegion
import Derived.Outline
namespace Go.Proofs.YtcddbpdebklhnaaGreatDoor
open Go.RowKit

theorem info_all {t : TypeId} {z : Option Value} {n b : Nat} (h : (Tryz.prog.info? t).map (fun i => (i.zero, i.size, i.bytes)) = some (z, n, b)) : ∃ i, Tryz.prog.info? t = some i ∧ i.zero = z ∧ i.size = n ∧ i.bytes = b := by
  cases hi : Tryz.prog.info? t with
  | none => rw [hi] at h; exact absurd h (by simp)
  | some i =>
    rw [hi] at h
    simp only [Option.map_some, Option.some.injEq, Prod.mk.injEq] at h
    exact ⟨i, rfl, h.1, h.2.1, h.2.2⟩
theorem own_slice {base : Nat} {e : TypeId} {size n : Nat} {v : Value} {xs : List Value} {W : World} (h : W.ownsRow base e size v n xs) : ∃ A c, v = .slice A n c := by
  rcases h.2 with ⟨rfl, e⟩ | ⟨g, cap, cur, rfl, _⟩
  · exact ⟨_, _, by rw [e]⟩
  · exact ⟨_, _, rfl⟩
theorem cells_new (w : World) (xs : List Value) (t : TypeId) : ∀ j u, xs[j]? = some u → (w.alloc (.cells xs.toArray t)).cell? ((⟨w.heap.size, 0, none⟩ : Addr).add j) = some u := by
  intro j u hu
  have hadd : (⟨w.heap.size, 0, none⟩ : Addr).add j = ⟨w.heap.size, j, none⟩ := by unfold Addr.add; split <;> simp_all
  rw [hadd, cellH (made_at w (.cells xs.toArray t)) j]
  simpa using hu

theorem ba_some {s : ByteArray} (h : ¬ s = .empty) : s.toList.isEmpty = false := by
  rw [Go.ByteArray.toList_eq]
  cases hd : s.data.toList with
  | nil => exact absurd (ByteArray.ext (Array.toList_inj.1 (hd.trans rfl))) h
  | cons x l => rfl

def LxOut (w : World) (r : LxR) (e : Ending) (w' : World) : Prop := Below w.heap.size w w' ∧ match r with
  | .bad x p => e = .returned (.tuple #[.slice none 0 0, .int .i64 x, .int .i64 p])
  | .good L => ∃ A c, e = .returned (.tuple #[.slice A L.length c, .int .i64 0, .int .i64 0]) ∧ LnsNew w.heap.size w' A L

end Go.Proofs.YtcddbpdebklhnaaGreatDoor
