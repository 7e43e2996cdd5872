/-
  One number read, in words that compose: what the program's Reader.Int answers and leaves. Conditions: what the library's variables hold.
-/
import Derived.Test.YthmjeibanofliaaDoorCodBa
namespace Go.Proofs.YthmjeibanofliaaDoor
open Go.RowKit

/-- A number from lo to hi is read of S: v, and S' is left; or it stops (b'). -/
structure Rd1 (S : ByteArray) (b : Bool) (lo hi v : Int) (S' : ByteArray) (b' : Bool) : Prop where
  bad : b' = true → v = 0
  yes : b' = false → b = false ∧ lo ≤ v ∧ v ≤ hi ∧ S = numX v ++ S'
  full : ∀ n T, b = false → lo ≤ n → n ≤ hi → -9223372036854775808 ≤ n → n ≤ 9223372036854775807 → S = numX n ++ T → b' = false
  size : S'.size ≤ S.size
theorem rd1_of {S : ByteArray} {b : Bool} {lo hi : Int} {r : Option (Int × List UInt8)} (hr : Takes (bl S) lo hi r) : Rd1 S b lo hi (iV b r) (iS S b r) (iB b r) := by
  refine ⟨fun h => ?_, fun h => ?_, fun n T hb h1 h2 h3 h4 h5 => ?_, iS_size hr⟩
  · unfold iB at h
    unfold iV
    cases b with
    | true => rfl
    | false =>
      cases r with
      | none => rfl
      | some q => simp at h
  · unfold iB at h
    cases b with
    | true => simp at h
    | false =>
      rcases hr with ⟨n, rest, a1, a2, a3, a4, a5, rfl⟩ | ⟨_, rfl⟩
      · refine ⟨rfl, a4, a5, ?_⟩
        apply bl_inj
        rw [bl_append, bl_numX]
        show bl S = numT n ++ bl (ofL rest)
        rw [bl_ofL]
        exact a3
      · simp at h
  · subst hb
    have ht : Takes (bl S) lo hi (some (n, bl T)) := .inl ⟨n, bl T, h3, h4, by rw [h5, bl_append, bl_numX], h1, h2, rfl⟩
    rw [takes_one hr ht]
    rfl
theorem Rd1.same {S S' : ByteArray} {b b' : Bool} {lo hi v n : Int} {T : ByteArray} (h : Rd1 S b lo hi v S' b') (hb : b' = false) (hS : S = numX n ++ T) : v = n ∧ S' = T := by
  have h1 := (h.yes hb).2.2.2
  have h2 := congrArg bl (h1.symm.trans hS)
  rw [bl_append, bl_append, bl_numX, bl_numX] at h2
  obtain ⟨e, h3⟩ := numT_front h2
  exact ⟨e, bl_inj h3⟩
theorem int_step {w : World} {R : Nat} {S : ByteArray} {b : Bool} (h : RdAt w R S b) (hV : VarsAt w) (hS : S.size ≤ 1000000) (lo hi : Int) :
    Calls Tryd.prog 20 #[.pointer (some ⟨R, 0, none⟩), .int .i64 lo, .int .i64 hi] w fun e w' => ∃ v S' b', e = .returned (.int .i64 v) ∧ RdAt w' R S' b' ∧ Only1 R w w' ∧ Rd1 S b lo hi v S' b' := by
  obtain ⟨r, hr⟩ := takes_some (bl S) lo hi
  refine (int_is h hV lo hi r hr (by omega)).mono ?_
  rintro e w' ⟨rfl, h1, h2⟩
  exact ⟨_, _, _, rfl, h1, h2, rd1_of hr⟩
end Go.Proofs.YthmjeibanofliaaDoor
