/-
  What the laws of layer 6 ask of the program's Reader: each call does what the document's does. (A bundle of contracts, over whatever way in which the Reader lies in memory.) The document's own, in the same words.
-/
import Derived.Test.YthmjeibanofliaaDoorCodE
namespace Go.Proofs.YthmjeibanofliaaDoor
open Go.RowKit

/-- What Int answers and leaves, of a Reader that has met something wrong (b) or not. -/
def iV (b : Bool) (r : Option (Int × List UInt8)) : Int := if b then 0 else rdN r
def iS (S : ByteArray) (b : Bool) (r : Option (Int × List UInt8)) : ByteArray := if b then S else rdS S r
def iB (b : Bool) (r : Option (Int × List UInt8)) : Bool := b || r.isNone
/-- What Text answers and leaves. -/
def tV (b : Bool) (r : Option (Int × List UInt8)) : ByteArray := if b then .empty else rtT r
def tS (S : ByteArray) (b : Bool) (r : Option (Int × List UInt8)) : ByteArray := if b then S else rtS S r
def tB (b : Bool) (r : Option (Int × List UInt8)) : Bool := b || rtB r

theorem takes_len {S : ByteArray} {lo hi n : Int} {x : List UInt8} (h : Takes (bl S) lo hi (some (n, x))) : x.length ≤ S.size := by
  rcases h with ⟨m, y, _, _, a3, _, _, e⟩ | ⟨_, e⟩
  · obtain ⟨rfl, rfl⟩ := Prod.mk.inj (Option.some.inj e)
    have := congrArg List.length a3
    rw [bl_len, List.length_append] at this
    omega
  · cases e
theorem size_ofL (l : List UInt8) : (ofL l).size = l.length := by rw [← bl_len, bl_ofL]
theorem iS_size {S : ByteArray} {lo hi : Int} {b : Bool} {r : Option (Int × List UInt8)} (h : Takes (bl S) lo hi r) : (iS S b r).size ≤ S.size := by
  unfold iS
  split
  · exact Nat.le_refl _
  · cases r with
    | none => exact Nat.le_refl _
    | some q => simp only [rdS]; rw [size_ofL]; exact takes_len h
theorem tS_size {S : ByteArray} {lo hi : Int} {b : Bool} {r : Option (Int × List UInt8)} (h : Takes (bl S) lo hi r) : (tS S b r).size ≤ S.size := by
  unfold tS
  split
  · exact Nat.le_refl _
  · cases r with
    | none => exact Nat.le_refl _
    | some q =>
      have := takes_len h
      simp only [rtS]
      split
      · rw [size_ofL]; exact this
      · rw [size_ofL, List.length_drop]; omega
theorem iV_range {S : ByteArray} {lo hi : Int} {b : Bool} {r : Option (Int × List UInt8)} (h : Takes (bl S) lo hi r) : (-9223372036854775808 ≤ iV b r ∧ iV b r ≤ 9223372036854775807) ∧ (iV b r = 0 ∨ (lo ≤ iV b r ∧ iV b r ≤ hi)) := by
  unfold iV
  split
  · exact ⟨by omega, .inl rfl⟩
  · rcases h with ⟨m, y, a1, a2, _, a4, a5, rfl⟩ | ⟨_, rfl⟩
    · exact ⟨⟨a1, a2⟩, .inr ⟨a4, a5⟩⟩
    · exact ⟨⟨by simp [rdN], by simp [rdN]⟩, .inl rfl⟩

theorem Only1.low {R : Nat} {w a b : World} (h : Below w.heap.size w a) (ho : Only1 R a b) (hR : w.heap.size ≤ R) : Below w.heap.size w b :=
  ⟨ho.os.trans h.os, ho.tape.trans h.tape, ho.output.trans h.output, Nat.le_trans h.size ho.size, fun i hi => (ho.block i (Nat.lt_of_lt_of_le hi h.size) (by omega)).trans (h.block i hi)⟩
theorem Only1.at {R i : Nat} {w w' : World} {o : Obj} (ho : Only1 R w w') (h : w.heap[i]? = some o) (hn : i ≠ R) : w'.heap[i]? = some o := by
  rw [ho.block i (Array.getElem?_eq_some_iff.1 h).1 hn]
  exact h

section
variable {w : World} {Q : Nat} {S : ByteArray} {b : Bool}
end

end Go.Proofs.YthmjeibanofliaaDoor
