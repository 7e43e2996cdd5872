/-
  What the document's disk (package lockageref03) does where the power fails, or it is flushed. No conditions but how it lies in memory. What the document's disk (package lockageref03) does where it is flushed, or written. No conditions but how it lies in memory.
-/
import Derived.Test.YtbdgmddlghhkjaaDiskB
import Derived.BigRegion
import Derived.OwnWalk
namespace Go.Proofs.Ytbdgmddlghhkjaa
open Go.RowKit

theorem cell_alloc {w : World} {a : Addr} {v : Value} {o : Obj} (h : w.cell? a = some v) : (w.alloc o).cell? a = some v := by
  rw [World.cell?_alloc_lt _ _ _ (World.block_lt_of_cell? _ _ h)]; exact h

/-- The first k bytes of the new one, and the others of the old one. -/
def tearB (k : Nat) (new old : ByteArray) : ByteArray := new.extract 0 k ++ old.extract k 64
theorem tearB_size {k : Nat} {new old : ByteArray} (hk : k ≤ 64) (h1 : new.size = 64) (h2 : old.size = 64) : (tearB k new old).size = 64 := by
  unfold tearB
  rw [ByteArray.size_append, ByteArray.size_extract, ByteArray.size_extract]
  omega

/-- What is kept once the first k writes of the cache have been put there, of the j-th one so many bytes as f says. -/
def keptTo (f : Nat → Nat) (c : List (Int × ByteArray)) (kept : List ByteArray) : Nat → List ByteArray
  | 0 => kept
  | k + 1 => match c[k]? with
    | some x => (keptTo f c kept k).set x.1.toNat (tearB (f k) x.2 ((keptTo f c kept k).getD x.1.toNat ⟨#[]⟩))
    | none => keptTo f c kept k
theorem keptTo_len (f : Nat → Nat) (c : List (Int × ByteArray)) (kept : List ByteArray) : ∀ k, (keptTo f c kept k).length = kept.length
  | 0 => rfl
  | k + 1 => by
    unfold keptTo
    split
    · rw [List.length_set, keptTo_len f c kept k]
    · exact keptTo_len f c kept k
theorem keptTo_size {f : Nat → Nat} {c : List (Int × ByteArray)} {kept : List ByteArray} (hf : ∀ j, f j ≤ 64) (hk : ∀ s ∈ kept, s.size = 64) (hc : ∀ x ∈ c, 0 ≤ x.1 ∧ x.1 < kept.length ∧ x.2.size = 64) : ∀ k, ∀ s ∈ keptTo f c kept k, s.size = 64
  | 0 => hk
  | k + 1 => by
    have ih := keptTo_size hf hk hc k
    unfold keptTo
    split
    · rename_i x hx
      obtain ⟨h0, h1, h2⟩ := hc x (List.mem_of_getElem? hx)
      intro s hs
      rcases List.mem_or_eq_of_mem_set hs with h | rfl
      · exact ih s h
      · refine tearB_size (hf k) h2 (ih _ ?_)
        have hlt : x.1.toNat < (keptTo f c kept k).length := by rw [keptTo_len]; omega
        simp [hlt]
    · exact ih

def fateF (b : Int) (j : Nat) : Nat := (fateV b j).toNat
theorem fateF_le (b : Int) (j : Nat) : fateF b j ≤ 64 := by have := fateV_range b j; unfold fateF; omega

/-- The power fails. -/
def crashS (st : Dk) (b : Int) : Dk := if st.off then st else { st with kept := keptTo (fateF b) st.cache st.kept st.cache.length, cache := [], off := true }
/-- It is flushed. -/
def flushS (st : Dk) : Dk := if st.off then st else { st with kept := keptTo (fun _ => 64) st.cache st.kept st.cache.length, cache := [] }

section
variable {base R : Nat} {st : Dk} {w : World}
theorem empty_of_size {s : ByteArray} (h : s.size = 0) : s = ByteArray.empty := ByteArray.ext (Array.eq_empty_of_size_eq_zero h)
theorem extract_all {s : ByteArray} (h : s.size = 64) : s.extract 0 64 = s := by
  rw [← h]; exact ByteArray.extract_zero_size
theorem tear64 {new old : ByteArray} (h1 : new.size = 64) (h2 : old.size = 64) : tearB 64 new old = new := by
  unfold tearB
  rw [extract_all h1, show old.extract 64 64 = ByteArray.empty from empty_of_size (by rw [ByteArray.size_extract]; omega)]
  exact ByteArray.append_empty

end
end Go.Proofs.Ytbdgmddlghhkjaa

namespace Go.Proofs.Ytbdgmddlghhkjaa
open Go.RowKit

section
variable {base R : Nat} {st : Dk} {w : World}
def flushE (st : Dk) : Int := if st.off then 5 else 0
end
end Go.Proofs.Ytbdgmddlghhkjaa
