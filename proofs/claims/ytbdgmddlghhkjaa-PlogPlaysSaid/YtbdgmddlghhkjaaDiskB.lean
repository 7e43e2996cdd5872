/-
  The document's disk (package lockageref03) in memory, and what its Arm and Start do. No conditions but how it lies in memory.
-/
import Derived.Test.YtbdgmddlghhkjaaSecX
import Derived.Laws.OwnMore
import Derived.Laws.Rows
namespace Go.Proofs.Ytbdgmddlghhkjaa
open Go.RowKit

/-- A disk's state: what is kept, the cache, is it off, armed, the bits, how many writes. -/
structure Dk where
  kept : List ByteArray
  cache : List (Int × ByteArray)
  off : Bool
  armed : Int
  bits : Int
  writes : Int

/-- What always holds of it. -/
structure Dk.Ok (d : Dk) : Prop where
  size : ∀ s ∈ d.kept, s.size = 64
  few : d.kept.length ≤ 4096
  at_ : ∀ x ∈ d.cache, 0 ≤ x.1 ∧ x.1 < d.kept.length ∧ x.2.size = 64
  armed0 : 0 ≤ d.armed
  armed1 : d.armed ≤ 9223372036854775807
  bits0 : 0 ≤ d.bits
  bits1 : d.bits < 18446744073709551616
  writes0 : 0 ≤ d.writes

/-- Only blocks from base on, of the types T, may have turned; new ones may be there. -/
structure OnlyT (base : Nat) (T : TypeId → Bool) (w w' : World) : Prop where
  os : w'.os = w.os
  tape : w'.tape = w.tape
  output : w'.output = w.output
  size : w.heap.size ≤ w'.heap.size
  block : ∀ i o, w.heap[i]? = some o → (i < base ∨ ∀ cs t m, o = .cells cs t m → T t = false) → w'.heap[i]? = some o

section
variable {base : Nat} {T : TypeId → Bool} {w a b : World}
theorem OnlyT.refl : OnlyT base T w w := ⟨rfl, rfl, rfl, Nat.le_refl _, fun _ _ h _ => h⟩
theorem OnlyT.trans (h : OnlyT base T w a) (k : OnlyT base T a b) : OnlyT base T w b :=
  ⟨k.os.trans h.os, k.tape.trans h.tape, k.output.trans h.output, Nat.le_trans h.size k.size, fun i o ho hc => k.block i o (h.block i o ho hc) hc⟩
theorem OnlyT.of_below (h : Below w.heap.size w a) : OnlyT base T w a :=
  ⟨h.os, h.tape, h.output, h.size, fun i o ho _ => by
    have hlt : i < w.heap.size := (Array.getElem?_eq_some_iff.1 ho).1
    rw [h.block i hlt]; exact ho⟩
theorem OnlyT.below (h : OnlyT base T w a) (hb : base ≤ w.heap.size) : Below base w a :=
  ⟨h.os, h.tape, h.output, h.size, fun i hi => by
    have hlt : i < w.heap.size := by omega
    rw [h.block i _ (Array.getElem?_eq_getElem hlt) (.inl hi), Array.getElem?_eq_getElem hlt]⟩
theorem OnlyT.alloc (h : OnlyT base T w a) (o : Obj) : OnlyT base T w (a.alloc o) := h.trans (OnlyT.of_below ((Below.refl _ _).alloc (Nat.le_refl _) o))
theorem OnlyT.setCell (h : OnlyT base T w a) {g i : Nat} {v : Value} {cs : Array Value} {t : TypeId} {m : Nat × Nat} (hg : a.heap[g]? = some (.cells cs t m)) (hT : T t = true) (hb : base ≤ g) : OnlyT base T w (a.setCell ⟨g, i, none⟩ v) :=
  h.trans ⟨rfl, rfl, rfl, by simp [World.setCell], fun j o ho hc => by
    by_cases e : j = g
    · subst e
      rw [hg] at ho
      injection ho with ho
      rcases hc with hc | hc
      · omega
      · rw [hc cs t m ho.symm] at hT; cases hT
    · exact (Below.heap_setCell a ⟨g, i, none⟩ v j e).trans ho⟩
end

def wrCells (c : List (Int × ByteArray)) : List Value := c.flatMap fun x => [.int .i64 x.1, .string x.2]

section
variable {base R : Nat} {st : Dk} {w : World}

theorem heap_set {w : World} {g i : Nat} {v : Value} {cs : Array Value} {t : TypeId} {m : Nat × Nat} (h : w.heap[g]? = some (.cells cs t m)) : (w.setCell ⟨g, i, none⟩ v).heap[g]? = some (.cells (cs.setIfInBounds i v) t m) := by
  simp [World.setCell, Array.getElem?_modify, h]
theorem own_set {w : World} {base : Nat} {e : TypeId} {size n : Nat} {v : Value} {xs : List Value} {g i : Nat} {u : Value} {cs : Array Value} {t : TypeId} (h : w.ownsRow base e size v n xs) (hg : w.heap[g]? = some (.cells cs t (0, 0))) (hne : e ≠ t) : (w.setCell ⟨g, i, none⟩ u).ownsRow base e size v n xs := by
  obtain ⟨hl, h⟩ := h
  refine ⟨hl, h.imp id ?_⟩
  rintro ⟨q, cap, cur, rfl, hb, hq, h1⟩
  refine ⟨q, cap, cur, rfl, hb, ?_, h1⟩
  have : q ≠ g := fun e' => by subst e'; rw [hg] at hq; injection hq with hq; injection hq with _ ht; exact hne ht.symm
  exact (Below.heap_setCell w ⟨g, i, none⟩ u q this).trans hq

section
variable {cs : Array Value} {kv cv : Value} {kept : List ByteArray} {cache : List (Int × ByteArray)}
end

/-- What is read at a place: the last write of it among these, or s. -/
def readL (at_ : Int) (s : ByteArray) (c : List (Int × ByteArray)) : ByteArray := c.foldl (fun s x => if x.1 = at_ then x.2 else s) s
theorem readL_snoc (at_ : Int) (s : ByteArray) (c : List (Int × ByteArray)) (x : Int × ByteArray) : readL at_ s (c ++ [x]) = if x.1 = at_ then x.2 else readL at_ s c := by simp [readL, List.foldl_append]

theorem wrCells_len (c : List (Int × ByteArray)) : (wrCells c).length = c.length * 2 := by
  induction c with
  | nil => rfl
  | cons x c ih =>
    simp only [wrCells, List.flatMap_cons, List.length_append, List.length_cons, List.length_nil] at *
    omega
theorem wrCells_at : ∀ (c : List (Int × ByteArray)) (i : Nat) (x : Int × ByteArray), c[i]? = some x → (wrCells c)[i * 2]? = some (.int .i64 x.1) ∧ (wrCells c)[i * 2 + 1]? = some (.string x.2)
  | [], i, x, h => by simp at h
  | y :: c, 0, x, h => by
    obtain rfl : y = x := by simpa using h
    exact ⟨rfl, rfl⟩
  | y :: c, i + 1, x, h => by
    have ih := wrCells_at c i x (by simpa using h)
    have e : wrCells (y :: c) = .int .i64 y.1 :: .string y.2 :: wrCells c := rfl
    rw [e, show (i + 1) * 2 = i * 2 + 1 + 1 by omega, show i * 2 + 1 + 1 + 1 = (i * 2 + 1) + 1 + 1 by omega]
    exact ⟨by simpa using ih.1, by simpa using ih.2⟩

/-- What Read answers. -/
def readE (st : Dk) (at_ : Int) : Int := if st.off then 5 else if at_ < 0 ∨ (st.kept.length : Int) ≤ at_ then 2 else 0
def readS (st : Dk) (at_ : Int) : ByteArray := if st.off then ⟨#[]⟩ else if at_ < 0 ∨ (st.kept.length : Int) ≤ at_ then ⟨#[]⟩ else readL at_ (st.kept.getD at_.toNat ⟨#[]⟩) st.cache

end
end Go.Proofs.Ytbdgmddlghhkjaa
