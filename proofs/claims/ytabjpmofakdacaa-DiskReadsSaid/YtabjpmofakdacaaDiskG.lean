/-
  What the laws of layer 3 ask of the program's disk: each call does what the document's does. (A bundle of contracts, over whatever way in which the disk lies in memory.)
-/
import Derived.Test.YtabjpmofakdacaaDiskF
namespace Go.Proofs.Ytabjpmofakdacaa
open Go.RowKit

/-- What Kept answers. -/
def keptV (st : Dk) (i : Int) : ByteArray := if i < 0 ∨ (st.kept.length : Int) ≤ i then ⟨#[]⟩ else st.kept.getD i.toNat ⟨#[]⟩
def armS (st : Dk) (a b : Int) : Dk := { st with armed := max a 0, bits := b }
def startS (st : Dk) : Dk := { st with off := false, armed := 0 }

/-- The program's disk lies as DiskAt says, in blocks of the types T; its calls are the document's. -/
structure DiskC (DiskAt : World → Nat → Nat → Dk → Prop) (T : TypeId → Bool) : Prop where
  apart : T 49 = false ∧ T 9 = false ∧ T 69 = false
  apart2 : T 34 = false
  mono : ∀ {w : World} {base base' D : Nat} {st : Dk}, DiskAt w base D st → base' ≤ base → DiskAt w base' D st
  frame : ∀ {w w' : World} {base D : Nat} {st : Dk}, DiskAt w base D st → OnlyT base refT w w' → DiskAt w' base D st
  ok : ∀ {w : World} {base D : Nat} {st : Dk}, DiskAt w base D st → st.Ok
  new_yes : ∀ (n : Nat) (w : World), 1 ≤ n → n ≤ 4096 → Calls Try.prog 10 #[.int .i64 n] w fun e w' => ∃ D, e = .returned (.tuple #[.pointer (some ⟨D, 0, none⟩), .int .i64 0]) ∧ DiskAt w' w.heap.size D (newS n) ∧ Below w.heap.size w w'
  new_no : ∀ (n : Int) (w : World), n < 1 ∨ 4096 < n → Calls Try.prog 10 #[.int .i64 n] w fun e w' => e = .returned (.tuple #[.pointer none, .int .i64 1]) ∧ Below w.heap.size w w'
  write : ∀ {w : World} {base D : Nat} {st : Dk}, DiskAt w base D st → base ≤ w.heap.size → st.cache.length < 1000000 → st.writes ≤ 1000000 → ∀ (a : Int) (s : ByteArray), s.size ≤ maxLen →
    Calls Try.prog 13 #[.pointer (some ⟨D, 0, none⟩), .int .i64 a, .string s] w fun e w' => e = .returned (.int .i64 (writeE st a s)) ∧ DiskAt w' base D (writeS st a s) ∧ OnlyT base T w w'
  flush : ∀ {w : World} {base D : Nat} {st : Dk}, DiskAt w base D st → base ≤ w.heap.size → st.cache.length ≤ 1000000 →
    Calls Try.prog 15 #[.pointer (some ⟨D, 0, none⟩)] w fun e w' => e = .returned (.int .i64 (flushE st)) ∧ DiskAt w' base D (flushS st) ∧ OnlyT base T w w'
  read : ∀ {w : World} {base D : Nat} {st : Dk}, DiskAt w base D st → base ≤ w.heap.size → st.cache.length ≤ 1000000 → ∀ a : Int,
    Calls Try.prog 17 #[.pointer (some ⟨D, 0, none⟩), .int .i64 a] w fun e w' => e = .returned (.tuple #[.string (readS st a), .int .i64 (readE st a)]) ∧ DiskAt w' base D st ∧ OnlyT base T w w'
  arm : ∀ {w : World} {base D : Nat} {st : Dk}, DiskAt w base D st → base ≤ w.heap.size → ∀ a b : Int, a ≤ 9223372036854775807 → 0 ≤ b → b < 18446744073709551616 →
    Calls Try.prog 19 #[.pointer (some ⟨D, 0, none⟩), .agg #[.int .i64 a, .int .u64 b]] w fun e w' => e = .returned (.tuple #[]) ∧ DiskAt w' base D (armS st a b) ∧ OnlyT base T w w'
  crash : ∀ {w : World} {base D : Nat} {st : Dk}, DiskAt w base D st → base ≤ w.heap.size → st.cache.length ≤ 1000000 → ∀ b : Int, 0 ≤ b → b < 18446744073709551616 →
    Calls Try.prog 21 #[.pointer (some ⟨D, 0, none⟩), .int .u64 b] w fun e w' => e = .returned (.tuple #[]) ∧ DiskAt w' base D (crashS st b) ∧ OnlyT base T w w'
  start : ∀ {w : World} {base D : Nat} {st : Dk}, DiskAt w base D st → base ≤ w.heap.size →
    Calls Try.prog 23 #[.pointer (some ⟨D, 0, none⟩)] w fun e w' => e = .returned (.tuple #[]) ∧ DiskAt w' base D (startS st) ∧ OnlyT base T w w'
  fate : ∀ (b i : Int) (w : World), 0 ≤ b → b < 18446744073709551616 → i ≤ 9223372036854775807 → -9223372036854775808 ≤ i → Calls Try.prog 30 #[.int .u64 b, .int .i64 i] w fun e w' => e = .returned (.int .i64 (fateV b i)) ∧ Below w.heap.size w w'
  down : ∀ {w : World} {base D : Nat} {st : Dk}, DiskAt w base D st → Calls Try.prog 25 #[.pointer (some ⟨D, 0, none⟩)] w fun e w' => e = .returned (.bool st.off) ∧ Below w.heap.size w w'
  writes : ∀ {w : World} {base D : Nat} {st : Dk}, DiskAt w base D st → Calls Try.prog 26 #[.pointer (some ⟨D, 0, none⟩)] w fun e w' => e = .returned (.int .i64 st.writes) ∧ Below w.heap.size w w'
  len : ∀ {w : World} {base D : Nat} {st : Dk}, DiskAt w base D st → Calls Try.prog 27 #[.pointer (some ⟨D, 0, none⟩)] w fun e w' => e = .returned (.int .i64 st.kept.length) ∧ Below w.heap.size w w'
  kept : ∀ {w : World} {base D : Nat} {st : Dk}, DiskAt w base D st → ∀ i : Int, Calls Try.prog 28 #[.pointer (some ⟨D, 0, none⟩), .int .i64 i] w fun e w' => e = .returned (.string (keptV st i)) ∧ Below w.heap.size w w'

section
variable {base R : Nat} {st : Dk} {w w' : World}
theorem own_frame {T : TypeId → Bool} {e : TypeId} {size n : Nat} {v : Value} {xs : List Value} (h : w.ownsRow base e size v n xs) (ho : OnlyT base T w w') (hT : T e = false) : w'.ownsRow base e size v n xs := by
  obtain ⟨hl, h⟩ := h
  refine ⟨hl, h.imp id ?_⟩
  rintro ⟨q, cap, cur, rfl, hb, hq, h1⟩
  refine ⟨q, cap, cur, rfl, hb, ho.block q _ hq (.inr fun cs t m e => ?_), h1⟩
  injection e with _ e
  rw [← e]; exact hT
theorem RefAt.frame {T : TypeId → Bool} (h : RefAt w base R st) (ho : OnlyT base T w w') (hT : T 49 = false ∧ T 9 = false ∧ T 69 = false) : RefAt w' base R st := by
  obtain ⟨kv, cv, hR, hb, hk, hc, ok⟩ := h
  refine ⟨kv, cv, ho.block R _ hR (.inr fun cs t m e => ?_), hb, own_frame hk ho hT.2.1, own_frame hc ho hT.2.2, ok⟩
  injection e with _ e
  rw [← e]; exact hT.1
theorem RefAt.mono {base' : Nat} (h : RefAt w base R st) (hb' : base' ≤ base) : RefAt w base' R st := by
  obtain ⟨kv, cv, hR, hb, hk, hc, ok⟩ := h
  have hm : ∀ {e : TypeId} {size n : Nat} {v : Value} {xs : List Value}, w.ownsRow base e size v n xs → w.ownsRow base' e size v n xs := fun ⟨hl, h⟩ =>
    ⟨hl, h.imp id fun ⟨q, cap, cur, h1, h2, h3⟩ => ⟨q, cap, cur, h1, by omega, h3⟩⟩
  exact ⟨kv, cv, hR, by omega, hm hk, hm hc, ok⟩
theorem RefAt.later (h : RefAt w base R st) (hb : Below w.heap.size w w') : RefAt w' base R st := h.frame (T := fun _ => false) (OnlyT.of_below hb) ⟨rfl, rfl, rfl⟩
/-- The fields that the laws read. -/
theorem RefAt.off_at (h : RefAt w base R st) : w.cell? ⟨R, 2, none⟩ = some (.bool st.off) := by
  obtain ⟨kv, cv, hR, _⟩ := h
  simp [World.cell?, hR]
theorem RefAt.writes_at (h : RefAt w base R st) : w.cell? ⟨R, 5, none⟩ = some (.int .i64 st.writes) := by
  obtain ⟨kv, cv, hR, _⟩ := h
  simp [World.cell?, hR]
end
end Go.Proofs.Ytabjpmofakdacaa
