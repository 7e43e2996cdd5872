/-
  Plain words of disks: fates, texts filled up, noughts. No program is named here.
-/
import Derived.Test.YthmjeibanofliaaDoorKept
import Derived.Laws.BitsLemmas
import Derived.Laws.BitsAllLaws
import Derived.Laws.BytesArg
import Derived.WalkKit
import Derived.WalkSpells
import Derived.WalkLawsBesides
import Derived.Lib.Hide
namespace Go.Proofs.YthmjeibanofliaaDoor
open Go.RowKit

/-- How many bytes of the i-th write are kept. -/
def fateC (bits i : Int) : Int := bits / 2 ^ (3 * (i % 21)).toNat % 8
def fateV (bits i : Int) : Int :=
  if i < 0 then 0 else if fateC bits i % 2 = 0 then 0 else if fateC bits i = 1 then 64 else 16 * ((fateC bits i - 1) / 2)

theorem fateC_range (bits i : Int) : 0 ≤ fateC bits i ∧ fateC bits i < 8 := by unfold fateC; omega
theorem fateV_cases (bits i : Int) : fateV bits i = 0 ∨ fateV bits i = 16 ∨ fateV bits i = 32 ∨ fateV bits i = 48 ∨ fateV bits i = 64 := by
  have := fateC_range bits i
  unfold fateV
  split
  · omega
  · split
    · omega
    · split <;> omega
theorem fateV_range (bits i : Int) : 0 ≤ fateV bits i ∧ fateV bits i ≤ 64 := by rcases fateV_cases bits i with h | h | h | h | h <;> omega

/-- A text with k dots more. -/
def padN (s : ByteArray) : Nat → ByteArray
  | 0 => s
  | k + 1 => padN s k ++ ⟨#[46]⟩
theorem padN_size (s : ByteArray) : ∀ k, (padN s k).size = s.size + k
  | 0 => rfl
  | k + 1 => by
    unfold padN
    rw [ByteArray.size_append, padN_size s k]
    rfl
/-- A text of 64 bytes. -/
def fillB (s : ByteArray) : ByteArray := (padN s (64 - s.size)).extract 0 64
theorem fillB_size (s : ByteArray) : (fillB s).size = 64 := by
  unfold fillB
  rw [ByteArray.size_extract, padN_size]
  omega
/-- k noughts. -/
def zeroB (k : Nat) : ByteArray := strOfNums (List.replicate k 0)
theorem zeroB_size (k : Nat) : (zeroB k).size = k := by unfold zeroB; rw [strOfNums_size]; simp

theorem i64_and7 (n : Int) : bits .and .i64 n 7 = n % 8 := by
  have h7 : (BitVec.ofInt 64 7).toNat = 2 ^ 3 - 1 := by decide
  have key : (BitVec.ofInt 64 n &&& BitVec.ofInt 64 7).toNat = (n % ((2 ^ 64 : Nat) : Int)).toNat % 2 ^ 3 := by
    rw [BitVec.toNat_and, BitVec.toNat_ofInt, h7, Nat.and_two_pow_sub_one_eq_mod]
  show IntKind.i64.wrap ((BitVec.ofInt 64 n &&& BitVec.ofInt 64 7).toNat : Nat) = n % 8
  rw [key, IntKind.wrap_i64]
  omega
theorem fate_and (b i : Int) : bits .and .i64 (wrap64 (b / 2 ^ (3 * (i % 21)).toNat)) 7 = fateC b i := by
  rw [i64_and7]
  unfold fateC wrap64
  omega

end Go.Proofs.YthmjeibanofliaaDoor
