/-
  What the laws of layer 6 ask of the program's Reader: each call does what the document's does. (A bundle of contracts, over whatever way in which the Reader lies in memory.) The document's own, in the same words.
-/
import Derived.Test.YtnajbcbdncmbbaaDoorCodE
namespace Go.Proofs.YtnajbcbdncmbbaaDoor
open Go.RowKit

/-- What Int answers and leaves, of a Reader that has met something wrong (b) or not. -/
def iV (b : Bool) (r : Option (Int × List UInt8)) : Int := if b then 0 else rdN r
def iS (S : ByteArray) (b : Bool) (r : Option (Int × List UInt8)) : ByteArray := if b then S else rdS S r
def iB (b : Bool) (r : Option (Int × List UInt8)) : Bool := b || r.isNone
/-- What Text answers and leaves. -/
def tV (b : Bool) (r : Option (Int × List UInt8)) : ByteArray := if b then .empty else rtT r
def tS (S : ByteArray) (b : Bool) (r : Option (Int × List UInt8)) : ByteArray := if b then S else rtS S r
def tB (b : Bool) (r : Option (Int × List UInt8)) : Bool := b || rtB r

theorem takes_len {S : ByteArray} {lo hi n : Int} {x : List UInt8} (h : Takes (bl S) lo hi (some (n, x))) : x.length ≤ S.size := by
  rcases h with ⟨m, y, _, _, a3, _, _, e⟩ | ⟨_, e⟩
  · obtain ⟨rfl, rfl⟩ := Prod.mk.inj (Option.some.inj e)
    have := congrArg List.length a3
    rw [bl_len, List.length_append] at this
    omega
  · cases e
theorem size_ofL (l : List UInt8) : (ofL l).size = l.length := by rw [← bl_len, bl_ofL]
theorem iS_size {S : ByteArray} {lo hi : Int} {b : Bool} {r : Option (Int × List UInt8)} (h : Takes (bl S) lo hi r) : (iS S b r).size ≤ S.size := by
  unfold iS
  split
  · exact Nat.le_refl _
  · cases r with
    | none => exact Nat.le_refl _
    | some q => simp only [rdS]; rw [size_ofL]; exact takes_len h
theorem tS_size {S : ByteArray} {lo hi : Int} {b : Bool} {r : Option (Int × List UInt8)} (h : Takes (bl S) lo hi r) : (tS S b r).size ≤ S.size := by
  unfold tS
  split
  · exact Nat.le_refl _
  · cases r with
    | none => exact Nat.le_refl _
    | some q =>
      have := takes_len h
      simp only [rtS]
      split
      · rw [size_ofL]; exact this
      · rw [size_ofL, List.length_drop]; omega
theorem iV_range {S : ByteArray} {lo hi : Int} {b : Bool} {r : Option (Int × List UInt8)} (h : Takes (bl S) lo hi r) : (-9223372036854775808 ≤ iV b r ∧ iV b r ≤ 9223372036854775807) ∧ (iV b r = 0 ∨ (lo ≤ iV b r ∧ iV b r ≤ hi)) := by
  unfold iV
  split
  · exact ⟨by omega, .inl rfl⟩
  · rcases h with ⟨m, y, a1, a2, _, a4, a5, rfl⟩ | ⟨_, rfl⟩
    · exact ⟨⟨a1, a2⟩, .inr ⟨a4, a5⟩⟩
    · exact ⟨⟨by simp [rdN], by simp [rdN]⟩, .inl rfl⟩

theorem Only1.low {R : Nat} {w a b : World} (h : Below w.heap.size w a) (ho : Only1 R a b) (hR : w.heap.size ≤ R) : Below w.heap.size w b :=
  ⟨ho.os.trans h.os, ho.tape.trans h.tape, ho.output.trans h.output, Nat.le_trans h.size ho.size, fun i hi => (ho.block i (Nat.lt_of_lt_of_le hi h.size) (by omega)).trans (h.block i hi)⟩
theorem Only1.at {R i : Nat} {w w' : World} {o : Obj} (ho : Only1 R w w') (h : w.heap[i]? = some o) (hn : i ≠ R) : w'.heap[i]? = some o := by
  rw [ho.block i (Array.getElem?_eq_some_iff.1 h).1 hn]
  exact h

/-- The document's Reader. -/
def RefRd (w : World) (Q : Nat) (S : ByteArray) (b : Bool) : Prop := w.heap[Q]? = some (.cells #[.string S, .bool b] 45 (0, 0))
section
variable {w : World} {Q : Nat} {S : ByteArray} {b : Bool}
theorem RefRd.only {w' : World} {R : Nat} (h : RefRd w Q S b) (ho : Only1 R w w') (hn : Q ≠ R) : RefRd w' Q S b := by
  unfold RefRd at h ⊢
  have hlt : Q < w.heap.size := (Array.getElem?_eq_some_iff.1 h).1
  rw [ho.block Q hlt hn]
  exact h
theorem refrint (h : RefRd w Q S b) (lo hi : Int) (r : Option (Int × List UInt8)) (hr : Takes (bl S) lo hi r) (hS : S.size ≤ 1000000) :
    Calls Tryd.prog 22 #[.pointer (some ⟨Q, 0, none⟩), .int .i64 lo, .int .i64 hi] w fun e w' => e = .returned (.int .i64 (iV b r)) ∧ RefRd w' Q (iS S b r) (iB b r) ∧ Only1 Q w w' := by
  cases b with
  | true => exact refrint_bad h lo hi hS
  | false => exact (refrint_good h lo hi r hr hS).mono fun _ _ hh => hh
theorem refrtext (h : RefRd w Q S b) (most : Int) (r : Option (Int × List UInt8)) (hr : Takes (bl S) 0 most r) (hS : S.size ≤ 1000000) :
    Calls Tryd.prog 23 #[.pointer (some ⟨Q, 0, none⟩), .int .i64 most] w fun e w' => e = .returned (.string (tV b r)) ∧ RefRd w' Q (tS S b r) (tB b r) ∧ Only1 Q w w' := by
  cases b with
  | true => exact reftext_bad h most hS
  | false => exact (reftext_good h most r hr hS).mono fun _ _ hh => hh
end

/-- The program's Reader lies as RdAt says, in the block R alone; its calls are the document's. -/
structure RdC (RdAt : World → Nat → ByteArray → Bool → Prop) : Prop where
  low : ∀ {w : World} {R : Nat} {s : ByteArray} {b : Bool}, RdAt w R s b → R < w.heap.size
  only : ∀ {w w' : World} {R Q : Nat} {s : ByteArray} {b : Bool}, RdAt w R s b → Only1 Q w w' → R ≠ Q → RdAt w' R s b
  new : ∀ (s : ByteArray) (w : World), s.size ≤ 1000000 → Calls Tryd.prog 16 #[.string s] w fun e w' => ∃ R, e = .returned (.pointer (some ⟨R, 0, none⟩)) ∧ w.heap.size ≤ R ∧ RdAt w' R s false ∧ Below w.heap.size w w'
  int : ∀ {w : World} {R : Nat} {s : ByteArray} {b : Bool}, RdAt w R s b → ∀ (lo hi : Int) (r : Option (Int × List UInt8)), Takes (bl s) lo hi r → s.size ≤ 1000000 →
    Calls Tryd.prog 17 #[.pointer (some ⟨R, 0, none⟩), .int .i64 lo, .int .i64 hi] w fun e w' => e = .returned (.int .i64 (iV b r)) ∧ RdAt w' R (iS s b r) (iB b r) ∧ Only1 R w w'
  text : ∀ {w : World} {R : Nat} {s : ByteArray} {b : Bool}, RdAt w R s b → ∀ (most : Int) (r : Option (Int × List UInt8)), Takes (bl s) 0 most r → s.size ≤ 1000000 →
    Calls Tryd.prog 18 #[.pointer (some ⟨R, 0, none⟩), .int .i64 most] w fun e w' => e = .returned (.string (tV b r)) ∧ RdAt w' R (tS s b r) (tB b r) ∧ Only1 R w w'
  label : ∀ {w : World} {R : Nat} {s : ByteArray} {b : Bool}, RdAt w R s b → ∀ (r q : Option (Int × List UInt8)), Takes (bl s) 0 7 r → Takes (bl (iS s b r)) 0 65535 q → s.size ≤ 1000000 →
    Calls Tryd.prog 19 #[.pointer (some ⟨R, 0, none⟩)] w fun e w' => e = .returned (.agg #[.int .i64 (if iB (iB b r) q then 0 else iV b r), .int .u16 (if iB (iB b r) q then 0 else iV (iB b r) q)]) ∧ RdAt w' R (iS (iS s b r) (iB b r) q) (iB (iB b r) q) ∧ Only1 R w w'
  ok : ∀ {w : World} {R : Nat} {s : ByteArray} {b : Bool}, RdAt w R s b → Calls Tryd.prog 20 #[.pointer (some ⟨R, 0, none⟩)] w fun e w' => e = .returned (.bool (!b)) ∧ Below w.heap.size w w'
  done : ∀ {w : World} {R : Nat} {s : ByteArray} {b : Bool}, RdAt w R s b → Calls Tryd.prog 21 #[.pointer (some ⟨R, 0, none⟩)] w fun e w' => e = .returned (.bool (!b && s.toList == [])) ∧ Below w.heap.size w w'
end Go.Proofs.YtnajbcbdncmbbaaDoor
