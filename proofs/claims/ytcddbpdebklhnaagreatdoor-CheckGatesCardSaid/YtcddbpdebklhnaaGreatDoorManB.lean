/-
  What the document's Label (package lockageref07), find and words (lockageref08) answer. Conditions: lists of a million words at most.
-/
import Derived.Test.YtcddbpdebklhnaaGreatDoorManA
import Derived.Deep.DeepCutAuto
namespace Go.Proofs.YtcddbpdebklhnaaGreatDoor
open Go.RowKit

/-- What Label answers. -/
def labV : Option (Int × Int) → Value
  | none => .tuple #[.agg #[.int .i64 0, .int .u16 0], .bool false]
  | some (a, b) => .tuple #[.agg #[.int .i64 a, .int .u16 b], .bool true]
/-- The texts L stand at A. -/
def TextsAt (w : World) (A : Option Addr) (L : List ByteArray) : Prop := 0 < L.length → ∃ ad, A = some ad ∧ ∀ i s, L[i]? = some s → w.cell? (ad.add i) = some (.string s)
theorem TextsAt.later {w w' : World} {A : Option Addr} {L : List ByteArray} (h : TextsAt w A L) (hb : Below w.heap.size w w') : TextsAt w' A L := fun hn => by
  obtain ⟨ad, e, hc⟩ := h hn
  exact ⟨ad, e, fun i x hi => cell_later hb (hc i x hi)⟩
theorem TextsAt.at_ {w : World} {A : Option Addr} {L : List ByteArray} (h : TextsAt w A L) {i : Nat} {s : ByteArray} (hi : L[i]? = some s) : ∃ ad, A = some ad ∧ w.cell? (ad.add i) = some (.string s) := by
  obtain ⟨ad, e, hc⟩ := h (by have := (List.getElem?_eq_some_iff.1 hi).1; omega)
  exact ⟨ad, e, hc i s hi⟩
theorem findP_none {l : List ByteArray} {x : ByteArray} (h : ∀ j : Nat, j < l.length → l[j]? ≠ some x) : findP l x = none := by
  unfold findP
  rw [List.findIdx?_eq_none_iff]
  intro y hy
  obtain ⟨j, hj, rfl⟩ := List.mem_iff_getElem.1 hy
  exact decide_eq_false (fun e => h j hj (by rw [List.getElem?_eq_getElem hj, e]))
theorem findP_some {l : List ByteArray} {x : ByteArray} {k : Nat} (hk : l[k]? = some x) (h : ∀ j : Nat, j < k → l[j]? ≠ some x) : findP l x = some k := by
  have hlt := (List.getElem?_eq_some_iff.1 hk).1
  unfold findP
  rw [List.findIdx?_eq_some_iff_getElem]
  refine ⟨hlt, decide_eq_true ?_, fun j hj => ?_⟩
  · rw [List.getElem?_eq_getElem hlt] at hk
    exact Option.some.inj hk
  · have hj2 : j < l.length := by omega
    have := h j hj
    rw [List.getElem?_eq_getElem hj2] at this
    simpa using this
theorem memB_find (x : ByteArray) (l : List ByteArray) : memB x l = (findP l x).isSome := by
  unfold memB findP
  rw [List.findIdx?_isSome]
/-- A place, or -1. -/
def idxI : Option Nat → Int
  | none => -1
  | some k => k
theorem idxI_neg (o : Option Nat) : decide (idxI o < 0) = !o.isSome := by
  cases o with
  | none => rfl
  | some k => exact decide_eq_false (by show ¬ (k : Int) < 0; omega)
theorem idxI_pos (o : Option Nat) : decide (0 ≤ idxI o) = o.isSome := by
  cases o with
  | none => rfl
  | some k => exact decide_eq_true (by show (0 : Int) ≤ k; omega)
theorem ba_same {s t : ByteArray} : (s.toList == t.toList) = decide (s = t) := by
  rw [Bool.eq_iff_iff]
  simp only [beq_iff_eq, decide_eq_true_eq, Go.ByteArray.toList_eq]
  constructor
  · intro h
    exact ByteArray.ext (Array.toList_inj.1 h)
  · intro h
    rw [h]
theorem texts_made (w : World) (L : List ByteArray) (t : TypeId) : TextsAt (w.alloc (.cells (L.map Value.string).toArray t)) (some ⟨w.heap.size, 0, none⟩) L := fun _ => ⟨_, rfl, fun i s h => by
  have hadd : (⟨w.heap.size, 0, none⟩ : Addr).add i = ⟨w.heap.size, i, none⟩ := by unfold Addr.add; split <;> simp_all
  rw [hadd, cellH (made_at w _) i]
  simp [h]⟩
end Go.Proofs.YtcddbpdebklhnaaGreatDoor
