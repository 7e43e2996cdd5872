/-
  The laws' first line for disks (awake), over a disk that keeps the bundle of contracts: answers that the document fixes. No conditions.
-/
import Derived.Test.YtabjpmofakdacaaDiskG
import Derived.Outline
namespace Go.Proofs.Ytabjpmofakdacaa
open Go.RowKit

def txA : ByteArray := fillB ⟨#[97]⟩
def txB : ByteArray := fillB ⟨#[98]⟩
def txC : ByteArray := fillB ⟨#[48, 49, 50, 51, 52, 53, 54, 55, 56, 57, 97, 98, 99, 100, 101, 102, 103, 104, 105, 106]⟩
def aw1 : Dk := writeS (newS 3) 0 txA
def aw2 : Dk := writeS aw1 1 txB
def aw3 : Dk := crashS aw2 1
def aw4 : Dk := startS aw3
def aw5 : Dk := armS aw4 1 3
def aw6 : Dk := writeS aw5 2 txC
def aw7 : Dk := startS aw6
def aw8 : Dk := flushS aw7

section
variable {DiskAt : World → Nat → Nat → Dk → Prop} {T : TypeId → Bool} {w : World} {base D : Nat}
theorem aw_w1 (C : DiskC DiskAt T) (h : DiskAt w base D (newS 3)) (hb : base ≤ w.heap.size) : Calls Try.prog 13 #[.pointer (some ⟨D, 0, none⟩), .int .i64 0, .string txA] w fun e w' => e = .returned (.int .i64 0) ∧ DiskAt w' base D aw1 ∧ OnlyT base T w w' := by
  have := C.write h hb (by decide +kernel) (by decide +kernel) 0 txA (by unfold maxLen; decide +kernel)
  rw [show writeE (newS 3) 0 txA = 0 by decide +kernel] at this
  exact this
theorem aw_w2 (C : DiskC DiskAt T) (h : DiskAt w base D aw1) (hb : base ≤ w.heap.size) : Calls Try.prog 13 #[.pointer (some ⟨D, 0, none⟩), .int .i64 1, .string txB] w fun e w' => e = .returned (.int .i64 0) ∧ DiskAt w' base D aw2 ∧ OnlyT base T w w' := by
  have := C.write h hb (by decide +kernel) (by decide +kernel) 1 txB (by unfold maxLen; decide +kernel)
  rw [show writeE aw1 1 txB = 0 by decide +kernel] at this
  exact this
theorem aw_w3 (C : DiskC DiskAt T) (h : DiskAt w base D aw5) (hb : base ≤ w.heap.size) : Calls Try.prog 13 #[.pointer (some ⟨D, 0, none⟩), .int .i64 2, .string txC] w fun e w' => e = .returned (.int .i64 5) ∧ DiskAt w' base D aw6 ∧ OnlyT base T w w' := by
  have := C.write h hb (by decide +kernel) (by decide +kernel) 2 txC (by unfold maxLen; decide +kernel)
  rw [show writeE aw5 2 txC = 5 by decide +kernel] at this
  exact this
theorem aw_w4 (C : DiskC DiskAt T) (h : DiskAt w base D aw8) (hb : base ≤ w.heap.size) (s : ByteArray) (hs : s.size ≤ maxLen) : Calls Try.prog 13 #[.pointer (some ⟨D, 0, none⟩), .int .i64 3, .string s] w fun e w' => e = .returned (.int .i64 2) ∧ DiskAt w' base D aw8 ∧ OnlyT base T w w' := by
  have h1 : aw8.off = false := by decide +kernel
  have h2 : outB aw8 3 = true := by decide +kernel
  have := C.write h hb (by decide +kernel) (by decide +kernel) 3 s hs
  rw [show writeE aw8 3 s = 2 by simp [writeE, h1, h2], show writeS aw8 3 s = aw8 by simp [writeS, h1, h2]] at this
  exact this
theorem aw_w5 (C : DiskC DiskAt T) (h : DiskAt w base D aw8) (hb : base ≤ w.heap.size) : Calls Try.prog 13 #[.pointer (some ⟨D, 0, none⟩), .int .i64 0, .string ⟨#[]⟩] w fun e w' => e = .returned (.int .i64 1) ∧ DiskAt w' base D aw8 ∧ OnlyT base T w w' := by
  have h1 : aw8.off = false := by decide +kernel
  have h2 : outB aw8 0 = false := by decide +kernel
  have h3 : ¬ (⟨#[]⟩ : ByteArray).size = 64 := by decide
  have := C.write h hb (by decide +kernel) (by decide +kernel) 0 ⟨#[]⟩ (by unfold maxLen; decide +kernel)
  rw [show writeE aw8 0 ⟨#[]⟩ = 1 by simp [writeE, h1, h2, h3], show writeS aw8 0 ⟨#[]⟩ = aw8 by simp [writeS, h1, h2, h3]] at this
  exact this
theorem aw_r1 (C : DiskC DiskAt T) (h : DiskAt w base D aw2) (hb : base ≤ w.heap.size) : Calls Try.prog 17 #[.pointer (some ⟨D, 0, none⟩), .int .i64 1] w fun e w' => e = .returned (.tuple #[.string txB, .int .i64 0]) ∧ DiskAt w' base D aw2 ∧ OnlyT base T w w' := by
  have := C.read h hb (by decide +kernel) 1
  rw [show readE aw2 1 = 0 by decide +kernel, show readS aw2 1 = txB by kernel_rfl] at this
  exact this
theorem aw_r2 (C : DiskC DiskAt T) (h : DiskAt w base D aw3) (hb : base ≤ w.heap.size) : Calls Try.prog 17 #[.pointer (some ⟨D, 0, none⟩), .int .i64 0] w fun e w' => e = .returned (.tuple #[.string ⟨#[]⟩, .int .i64 5]) ∧ DiskAt w' base D aw3 ∧ OnlyT base T w w' := by
  have := C.read h hb (by decide +kernel) 0
  rw [show readE aw3 0 = 5 by decide +kernel, show readS aw3 0 = ⟨#[]⟩ by kernel_rfl] at this
  exact this
theorem aw_k0 (C : DiskC DiskAt T) (h : DiskAt w base D aw7) : Calls Try.prog 28 #[.pointer (some ⟨D, 0, none⟩), .int .i64 0] w fun e w' => e = .returned (.string txA) ∧ Below w.heap.size w w' := by
  have := C.kept h 0
  rw [show keptV aw7 0 = txA by kernel_rfl] at this
  exact this
theorem aw_k1 (C : DiskC DiskAt T) (h : DiskAt w base D aw7) : Calls Try.prog 28 #[.pointer (some ⟨D, 0, none⟩), .int .i64 1] w fun e w' => e = .returned (.string (zeroB 64)) ∧ Below w.heap.size w w' := by
  have := C.kept h 1
  rw [show keptV aw7 1 = zeroB 64 by kernel_rfl] at this
  exact this
theorem aw_k2 (C : DiskC DiskAt T) (h : DiskAt w base D aw7) : Calls Try.prog 28 #[.pointer (some ⟨D, 0, none⟩), .int .i64 2] w fun e w' => e = .returned (.string (⟨#[48, 49, 50, 51, 52, 53, 54, 55, 56, 57, 97, 98, 99, 100, 101, 102]⟩ ++ zeroB 48)) ∧ Below w.heap.size w w' := by
  have := C.kept h 2
  rw [show keptV aw7 2 = ⟨#[48, 49, 50, 51, 52, 53, 54, 55, 56, 57, 97, 98, 99, 100, 101, 102]⟩ ++ zeroB 48 by kernel_rfl] at this
  exact this
theorem aw_f (C : DiskC DiskAt T) (h : DiskAt w base D aw7) (hb : base ≤ w.heap.size) : Calls Try.prog 15 #[.pointer (some ⟨D, 0, none⟩)] w fun e w' => e = .returned (.int .i64 0) ∧ DiskAt w' base D aw8 ∧ OnlyT base T w w' := by
  have := C.flush h hb (by decide +kernel)
  rw [show flushE aw7 = 0 by decide +kernel] at this
  exact this
theorem aw_n (C : DiskC DiskAt T) (h : DiskAt w base D aw8) : Calls Try.prog 26 #[.pointer (some ⟨D, 0, none⟩)] w fun e w' => e = .returned (.int .i64 3) ∧ Below w.heap.size w w' := by
  have := C.writes h
  rw [show aw8.writes = 3 by decide +kernel] at this
  exact this
theorem aw_l (C : DiskC DiskAt T) (h : DiskAt w base D aw8) : Calls Try.prog 27 #[.pointer (some ⟨D, 0, none⟩)] w fun e w' => e = .returned (.int .i64 3) ∧ Below w.heap.size w w' := by
  have := C.len h
  rw [show aw8.kept.length = 3 by decide +kernel] at this
  exact this
end
end Go.Proofs.Ytabjpmofakdacaa
