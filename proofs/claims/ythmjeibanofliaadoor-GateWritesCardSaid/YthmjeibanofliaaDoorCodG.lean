/-
  The laws' first line: a few numbers and a text, written and read. Conditions: what the package-level variables hold.
-/
import Derived.Test.YthmjeibanofliaaDoorCodO
import Derived.Test.YthmjeibanofliaaDoorCodW
namespace Go.Proofs.YthmjeibanofliaaDoor
open Go.RowKit
section
variable {w : World} {R : Nat} {s : ByteArray} {b : Bool}
theorem rd_ok (h : RdAt w R s b) : Calls Tryd.prog 14 #[.pointer (some ⟨R, 0, none⟩)] w fun e w' => e = .returned (.bool (!b)) ∧ Below w.heap.size w w' :=
  (ok_is h).mono fun _ _ ⟨he, hw⟩ => ⟨he, by subst hw; exact Below.refl _ _⟩
theorem rd_done (h : RdAt w R s b) : Calls Tryd.prog 12 #[.pointer (some ⟨R, 0, none⟩)] w fun e w' => e = .returned (.bool (!b && s.toList == [])) ∧ Below w.heap.size w w' :=
  (done_is h).mono fun _ _ ⟨he, hw⟩ => ⟨he, by subst hw; exact Below.refl _ _⟩
end
theorem numS (n : Nat) (h : n < 10) : numX (n : Int) = ⟨#[UInt8.ofNat (48 + n), 44]⟩ := by
  apply bl_inj
  rw [bl_numX]
  unfold numT
  rw [if_neg (by omega), Int.natAbs_natCast, digN_low h]
  rfl
theorem numM1 : numX (-1) = ⟨#[45, 49, 44]⟩ := by
  apply bl_inj
  rw [bl_numX]
  unfold numT
  rw [if_pos (by decide), show (-1 : Int).natAbs = 1 from rfl, digN_low (by decide)]
  rfl
abbrev abB : ByteArray := ⟨#[97, 98]⟩
abbrev s3B : ByteArray := ⟨#[50, 44, 97, 98]⟩
abbrev s2B : ByteArray := ⟨#[45, 49, 44, 50, 44, 97, 98]⟩
abbrev s1B : ByteArray := ⟨#[53, 44, 45, 49, 44, 50, 44, 97, 98]⟩
theorem s1_is : txtsX (intsX .empty [5, -1]) [abB] = s1B := by
  simp only [txtsX, intsX, List.foldl]
  rw [show (5 : Int) = ((5 : Nat) : Int) from rfl, numS 5 (by decide), numM1, show (abB.size : Int) = ((2 : Nat) : Int) from rfl, numS 2 (by decide)]
  rfl
theorem s1_takes : Takes (bl s1B) 0 9 (some (5, bl s2B)) := .inl ⟨5, bl s2B, by decide, by decide, by rw [← bl_numX, show (5 : Int) = ((5 : Nat) : Int) from rfl, numS 5 (by decide)]; rfl, by decide, by decide, rfl⟩
theorem s2_takes : Takes (bl s2B) (-1) 0 (some (-1, bl s3B)) := .inl ⟨-1, bl s3B, by decide, by decide, by rw [← bl_numX, numM1]; rfl, by decide, by decide, rfl⟩
theorem s3_takes : Takes (bl s3B) 0 2 (some (2, bl abB)) := .inl ⟨2, bl abB, by decide, by decide, by rw [← bl_numX, show (2 : Int) = ((2 : Nat) : Int) from rfl, numS 2 (by decide)]; rfl, by decide, by decide, rfl⟩
theorem nought_takes : Takes (bl ⟨#[48, 53, 44]⟩) 0 9 none := .inr ⟨fun ⟨n, x, _, _, h, h0, _⟩ => by
  rw [numT_head, List.append_assoc] at h
  have h2 : ([48, 53] : List UInt8) ++ 44 :: [] = headT n ++ 44 :: x := h
  obtain ⟨h3, _⟩ := split_first (by decide) (headT_none n) h2
  unfold headT at h3
  rw [if_neg (by omega)] at h3
  have h4 := congrArg valD h3
  simp only [List.nil_append] at h3
  have h5 : valD ([] ++ digN n.natAbs) = n.natAbs := digN_val _
  rw [h5] at h4
  have h6 : n.natAbs = 5 := h4.symm
  rw [h6, digN_low (by decide)] at h3
  exact absurd h3 (by decide), rfl⟩

end Go.Proofs.YthmjeibanofliaaDoor
