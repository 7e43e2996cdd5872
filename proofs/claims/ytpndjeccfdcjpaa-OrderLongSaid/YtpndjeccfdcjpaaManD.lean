/-
  What the document's value (package lockageref08) answers of a pair, and leaves in the line. Conditions: a word of a million bytes at most, at a place below a million.
-/
import Derived.Test.YtpndjeccfdcjpaaManC
import Derived.BigQuiet
import Derived.Deep.QuietTactic
namespace Go.Proofs.Ytpndjeccfdcjpaa
open Go.RowKit

structure Only1 (R : Nat) (w w' : World) : Prop where
  os : w'.os = w.os
  tape : w'.tape = w.tape
  output : w'.output = w.output
  size : w.heap.size ≤ w'.heap.size
  block : ∀ i, i < w.heap.size → i ≠ R → w'.heap[i]? = w.heap[i]?
theorem Only1.of_below {R : Nat} {w w' : World} (h : Below w.heap.size w w') : Only1 R w w' := ⟨h.os, h.tape, h.output, h.size, fun i hi _ => h.block i hi⟩
theorem Only1.set {R i : Nat} {w a : World} (h : Only1 R w a) (v : Value) : Only1 R w (a.setCell ⟨R, i, none⟩ v) :=
  ⟨h.os, h.tape, h.output, by simpa using h.size, fun j hj hn => (Below.heap_setCell a ⟨R, i, none⟩ v j (by simpa using hn)).trans (h.block j hj hn)⟩
theorem Only1.below {R : Nat} {w a b : World} (h : Only1 R w a) (k : Below a.heap.size a b) : Only1 R w b :=
  ⟨k.os.trans h.os, k.tape.trans h.tape, k.output.trans h.output, Nat.le_trans h.size k.size, fun i hi hn => (k.block i (Nat.lt_of_lt_of_le hi h.size)).trans (h.block i hi hn)⟩

/-- A line in memory. -/
def lnC (x : LnP) (av : Value) : Array Value := #[.string x.name, .slice none 0 0, .int .i64 x.retry, .int .i64 x.time, .int .i64 x.need, .int .i64 x.lv, .int .u16 x.st, av]
section
variable {w : World} {X : Nat} {x : LnP} {av : Value}
theorem namesGo_len (s : ByteArray) (p : Nat) : ∀ (f fr i : Nat) (out l : List Wd), namesGo s p f fr i out = .inl l → l.length ≤ out.length + f + 1
  | 0, fr, i, out, l, h => by
    rw [namesGo_end] at h
    split at h
    · injection h with h
      rw [← h]
      simp
    · cases h
  | f + 1, fr, i, out, l, h => by
    by_cases h44 : byL s i = 44
    · rw [namesGo_comma h44] at h
      split at h
      · have := namesGo_len s p f _ _ _ l h
        simp at this
        omega
      · cases h
    · rw [namesGo_on h44] at h
      have := namesGo_len s p f _ _ _ l h
      omega
def dupR (x : LnP) (l : List Wd) : Option Nat → FaP ⊕ LnP
  | some p => .inl ⟨7, p⟩
  | none => .inr { x with after := l }
theorem dupGo_step {l : List Wd} {f i : Nat} {a : Wd} (hi : l[i]? = some a) : dupGo l (f + 1) i = if memB a.t ((l.take i).map (·.t)) then some a.p else dupGo l f (i + 1) := by
  rw [dupGo, List.getD_eq_getElem?_getD, hi]
  rfl
theorem mem_take {l : List Wd} {i : Nat} {t : ByteArray} : t ∈ (l.take i).map (·.t) ↔ ∃ (k : Nat) (b : Wd), k < i ∧ l[k]? = some b ∧ b.t = t := by
  rw [List.mem_map]
  constructor
  · rintro ⟨b, hb, e⟩
    obtain ⟨k, hk, rfl⟩ := List.mem_iff_getElem.1 hb
    have hk2 := hk
    rw [List.length_take] at hk2
    exact ⟨k, _, by omega, by rw [List.getElem_take, List.getElem?_eq_getElem], e⟩
  · rintro ⟨k, b, hk, hb, e⟩
    refine ⟨b, List.mem_of_getElem? (i := k) ?_, e⟩
    rw [List.getElem?_take, if_pos hk]
    exact hb
end
end Go.Proofs.Ytpndjeccfdcjpaa
