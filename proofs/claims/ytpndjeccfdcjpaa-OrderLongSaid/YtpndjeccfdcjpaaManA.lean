/-
  What the document's Name, Number, Label (package lockageref07) and find (lockageref08) answer. Conditions: texts and lists of a million bytes, or words, at most.
-/
import Derived.Test.YtpndjeccfdcjpaaProg
import Derived.Test.YtpndjeccfdcjpaaManP
import Derived.Test.YtpndjeccfdcjpaaLexC
import Derived.Test.YtpndjeccfdcjpaaLabelG
import Derived.WalkKit
import Derived.Outline
import Derived.Deep.DeepCutAuto
namespace Go.Proofs.Ytpndjeccfdcjpaa
open Go.RowKit

theorem nameP_no {s : ByteArray} (h : ¬ nameOk s) : nameP s = false := decide_eq_false h
theorem nameP_yes {s : ByteArray} (h : nameOk s) : nameP s = true := decide_eq_true h
set_option maxHeartbeats 1000000 in
set_option maxRecDepth 100000 in
theorem refname_is (s : ByteArray) (hs : s.size ≤ 1000000) (w : World) : Calls Try.prog 14 #[.string s] w fun e w' => e = .returned (.bool (nameP s)) ∧ w = w' := by
  obtain ⟨b, hb⟩ : ∃ b, b = nameP s := ⟨_, rfl⟩
  rw [← hb]
  have HB := Lib.hid hb
  have HBY := Lib.hid (byL_at s)
  clear hb
  go_enter Try.func14, Try.ntmps14
  go_wp2_with fail
  go_loopw [3] (fun i wr => ∃ k : Nat, i = .int .i64 k ∧ k ≤ s.size ∧ wr = w ∧ ∀ j, j < k → 97 ≤ byL s j ∧ byL s j ≤ 122) (fun i _ => s.size - (intOf i).toNat)
  case atStart => exact ⟨0, rfl, Nat.zero_le _, rfl, fun j h => absurd h (by omega)⟩
  case round =>
    obtain ⟨k, rfl, hk, rfl, hall⟩ := hrel
    have HALL := Lib.hid hall
    clear hall
    by_cases hlt : k < s.size
    · have hB : ∀ h : k < s.size, ((s[k]'h).toNat : Int) = byL s k := HBY.out k
      by_cases h1 : byL s k < 97
      · have HV := Lib.hid (show b = false from HB.out.trans (nameP_no (fun h => by have := h.2.2 k hlt; omega)))
        go_wp2_with fail
        go_ret
        exact ⟨by rw [HV.out]; rfl, rfl⟩
      · by_cases h2 : 122 < byL s k
        · have HV := Lib.hid (show b = false from HB.out.trans (nameP_no (fun h => by have := h.2.2 k hlt; omega)))
          go_wp2_with fail
          go_ret
          exact ⟨by rw [HV.out]; rfl, rfl⟩
        · go_wp2_with fail
          go_roundw
          case rel => exact ⟨k + 1, by go_num, by omega, trivial, fun j hj => by
            rcases Nat.lt_or_ge j k with h | h
            · exact HALL.out j h
            · obtain rfl : j = k := by omega
              omega⟩
          case measure => simp [intOf]; omega
    · obtain rfl : k = s.size := by omega
      by_cases h1 : (1 : Int) ≤ s.size
      · by_cases h2 : (s.size : Int) ≤ 8
        · have HV := Lib.hid (show b = true from HB.out.trans (nameP_yes ⟨by omega, by omega, HALL.out⟩))
          go_wp2_with fail
          go_ret
          exact ⟨by rw [HV.out]; rfl, rfl⟩
        · have HV := Lib.hid (show b = false from HB.out.trans (nameP_no (fun h => by have := h.2.1; omega)))
          go_wp2_with fail
          go_ret
          exact ⟨by rw [HV.out]; rfl, rfl⟩
      · have HV := Lib.hid (show b = false from HB.out.trans (nameP_no (fun h => by have := h.1; omega)))
        go_wp2_with fail
        go_ret
        exact ⟨by rw [HV.out]; rfl, rfl⟩

theorem valN_range {s : ByteArray} : ∀ k, k ≤ 9 → (∀ j, j < k → 48 ≤ byL s j ∧ byL s j ≤ 57) → 0 ≤ valN s k ∧ valN s k < 10 ^ k
  | 0, _, _ => by simp [valN]
  | k + 1, hk, h => by
    obtain ⟨a, b⟩ := valN_range k (by omega) (fun j hj => h j (by omega))
    have := h k (by omega)
    rw [show ((10 : Int) ^ (k + 1)) = 10 ^ k * 10 from Int.pow_succ ..]
    unfold valN
    omega
theorem valN_small {s : ByteArray} {k : Nat} (hk : k ≤ 9) (h : ∀ j, j < k → 48 ≤ byL s j ∧ byL s j ≤ 57) : 0 ≤ valN s k ∧ valN s k < 1000000000 := by
  obtain ⟨a, b⟩ := valN_range k hk h
  have : (10 : Int) ^ k ≤ 10 ^ 9 := by
    match k, hk with
    | 0, _ | 1, _ | 2, _ | 3, _ | 4, _ | 5, _ | 6, _ | 7, _ | 8, _ | 9, _ => decide
  omega
/-- What Number answers. -/
def numV : Option Int → Value
  | none => .tuple #[.int .i64 0, .bool false]
  | some n => .tuple #[.int .i64 n, .bool true]
theorem numP_no {s : ByteArray} {lo hi : Int} (h : ¬ numOk s) : numP s lo hi = none := if_neg (fun k => h k.1)
end Go.Proofs.Ytpndjeccfdcjpaa
