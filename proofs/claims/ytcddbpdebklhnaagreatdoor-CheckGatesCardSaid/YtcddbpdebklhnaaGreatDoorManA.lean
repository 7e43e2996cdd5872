/-
  What the document's Name, Number, Label (package lockageref07) and find (lockageref08) answer. Conditions: texts and lists of a million bytes, or words, at most.
-/
import Derived.Test.YtcddbpdebklhnaaGreatDoorProg
import Derived.Test.YtcddbpdebklhnaaGreatDoorManP
import Derived.Test.YtcddbpdebklhnaaGreatDoorLexC
import Derived.Test.YtcddbpdebklhnaaGreatDoorLabelG
import Derived.WalkKit
import Derived.Outline
import Derived.Deep.DeepCutAuto
namespace Go.Proofs.YtcddbpdebklhnaaGreatDoor
open Go.RowKit

theorem nameP_no {s : ByteArray} (h : ¬ nameOk s) : nameP s = false := decide_eq_false h
theorem nameP_yes {s : ByteArray} (h : nameOk s) : nameP s = true := decide_eq_true h
theorem valN_range {s : ByteArray} : ∀ k, k ≤ 9 → (∀ j, j < k → 48 ≤ byL s j ∧ byL s j ≤ 57) → 0 ≤ valN s k ∧ valN s k < 10 ^ k
  | 0, _, _ => by simp [valN]
  | k + 1, hk, h => by
    obtain ⟨a, b⟩ := valN_range k (by omega) (fun j hj => h j (by omega))
    have := h k (by omega)
    rw [show ((10 : Int) ^ (k + 1)) = 10 ^ k * 10 from Int.pow_succ ..]
    unfold valN
    omega
theorem valN_small {s : ByteArray} {k : Nat} (hk : k ≤ 9) (h : ∀ j, j < k → 48 ≤ byL s j ∧ byL s j ≤ 57) : 0 ≤ valN s k ∧ valN s k < 1000000000 := by
  obtain ⟨a, b⟩ := valN_range k hk h
  have : (10 : Int) ^ k ≤ 10 ^ 9 := by
    match k, hk with
    | 0, _ | 1, _ | 2, _ | 3, _ | 4, _ | 5, _ | 6, _ | 7, _ | 8, _ | 9, _ => decide
  omega
/-- What Number answers. -/
def numV : Option Int → Value
  | none => .tuple #[.int .i64 0, .bool false]
  | some n => .tuple #[.int .i64 n, .bool true]
theorem numP_no {s : ByteArray} {lo hi : Int} (h : ¬ numOk s) : numP s lo hi = none := if_neg (fun k => h k.1)
end Go.Proofs.YtcddbpdebklhnaaGreatDoor
