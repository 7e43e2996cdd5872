/-
  In whatever order a task's pairs stand it is the same. Plain facts: no program is named here.
-/
import Derived.Test.YtcfnmjhelhdobaaGreatDoorManO
namespace Go.Proofs.YtcfnmjhelhdobaaGreatDoor

def ordA (r t : UInt8) : ByteArray := ofL ([112, 105, 112, 101, 32, 112, 10, 116, 97, 115, 107, 32, 97, 10, 116, 97, 115, 107, 32, 98, 32, 97, 102, 116, 101, 114, 32, 97, 32, 114, 101, 116, 114, 121, 32] ++ ([r] ++ ([32, 116, 105, 109, 101, 32] ++ [t])))
def ordB (r t : UInt8) : ByteArray := ofL ([112, 105, 112, 101, 32, 112, 10, 116, 97, 115, 107, 32, 97, 10, 116, 97, 115, 107, 32, 98, 32, 116, 105, 109, 101, 32] ++ ([t] ++ ([32, 114, 101, 116, 114, 121, 32] ++ ([r] ++ [32, 97, 102, 116, 101, 114, 32, 97]))))
def ordPi (r t : Int) : PiP := ⟨ofL [112], [⟨ofL [97], [], 0, 5, 0, 0, 0⟩, ⟨ofL [98], [0], r, t, 0, 0, 0⟩]⟩
def isPi (p : PiP) : FaP ⊕ PiP → Bool
  | .inl _ => false
  | .inr q => sameP q p
theorem isPi_iff {p : PiP} {r : FaP ⊕ PiP} (h : isPi p r = true) : r = .inr p := by
  cases r with
  | inl e => cases h
  | inr q => rw [sameP_iff.1 h]
theorem ord_all : ∀ r : Fin 6, ∀ t : Fin 9, isPi (ordPi ((r : Nat) : Int) (1 + ((t : Nat) : Int))) (parseP (ordA (UInt8.ofNat (48 + r)) (UInt8.ofNat (49 + t)))) = true ∧ isPi (ordPi ((r : Nat) : Int) (1 + ((t : Nat) : Int))) (parseP (ordB (UInt8.ofNat (48 + r)) (UInt8.ofNat (49 + t)))) = true := by decide +kernel
/-- Whatever the order of its pairs, it is the same. -/
theorem order_same {r t : Nat} (hr : r < 6) (ht : t < 9) : parseP (ordA (UInt8.ofNat (48 + r)) (UInt8.ofNat (49 + t))) = .inr (ordPi r (1 + t)) ∧ parseP (ordB (UInt8.ofNat (48 + r)) (UInt8.ofNat (49 + t))) = .inr (ordPi r (1 + t)) := by
  obtain ⟨h1, h2⟩ := ord_all ⟨r, hr⟩ ⟨t, ht⟩
  exact ⟨isPi_iff h1, isPi_iff h2⟩
end Go.Proofs.YtcfnmjhelhdobaaGreatDoor
