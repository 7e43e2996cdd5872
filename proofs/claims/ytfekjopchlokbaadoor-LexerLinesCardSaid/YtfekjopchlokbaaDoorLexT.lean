/-
  Plain words: the first part of a text and what stands behind it, by the first separator. No program is named here.
-/
import Derived.Test.YtfekjopchlokbaaDoorLexS
import Derived.Lib.IndexLaws
namespace Go.Proofs.YtfekjopchlokbaaDoor

section
variable {c : UInt8} {s : ByteArray} {q o : Nat}
theorem part_last (h : Lib.indexByte (bl s) c = -1) : (partsL c (bl s) q).map mkW = [⟨s, q⟩] := by
  rw [partsL_none _ _ (fun b hb e => by
    subst e
    obtain ⟨i, hi, he⟩ := List.mem_iff_getElem.1 hb
    exact Lib.indexByte_none h i (by rw [List.getElem?_eq_getElem hi, he]))]
  show [mkW (bl s, q)] = _
  unfold mkW
  rw [ofL_bl]
theorem at_byte (h : Lib.indexByte (bl s) c = o) : o < (bl s).length ∧ bl s = (bl s).take o ++ c :: (bl s).drop (o + 1) ∧ ∀ d ∈ (bl s).take o, d ≠ c := by
  obtain ⟨h1, h2⟩ := Lib.indexByte_some h
  obtain ⟨hl, h3⟩ := List.getElem?_eq_some_iff.1 h1
  refine ⟨hl, ?_, ?_⟩
  · conv => lhs; rw [← List.take_append_drop o (bl s)]
    rw [List.drop_eq_getElem_cons hl, h3]
  · intro d hd e
    subst e
    obtain ⟨i, hi, he⟩ := List.mem_iff_getElem.1 hd
    rw [List.length_take] at hi
    rw [List.getElem_take] at he
    exact h2 i (by omega) (by rw [List.getElem?_eq_getElem (by omega), he])
theorem part_next (h : Lib.indexByte (bl s) c = o) : (partsL c (bl s) q).map mkW = ⟨s.extract 0 o, q⟩ :: (partsL c (bl (s.extract (o + 1) s.size)) (q + o + 1)).map mkW := by
  obtain ⟨hl, hs, hd⟩ := at_byte h
  have e1 : s.extract 0 o = ofL ((bl s).take o) := by
    apply bl_inj
    rw [bl_extract, bl_ofL, List.drop_zero]
  have e2 : bl (s.extract (o + 1) s.size) = (bl s).drop (o + 1) := by rw [bl_extract, ← bl_len, List.take_length]
  rw [e1, e2]
  conv => lhs; rw [hs, partsL_at _ _ _ hd]
  rw [List.length_take, Nat.min_eq_left (Nat.le_of_lt hl)]
  rfl
theorem byte_low (h : Lib.indexByte (bl s) c = o) : o < s.size := by
  have := (at_byte h).1
  rw [bl_len] at this
  exact this
theorem byte_nat (h : Lib.indexByte (bl s) c ≠ -1) : ∃ o : Nat, Lib.indexByte (bl s) c = o := by
  have := Lib.indexByte_ge (bl s) c
  exact ⟨(Lib.indexByte (bl s) c).toNat, by omega⟩
end
/-- Parts lie in the text. -/
theorem parts_in {c : UInt8} : ∀ (l : List UInt8) (p : Nat) (x : List UInt8 × Nat), x ∈ partsL c l p → p ≤ x.2 ∧ x.2 + x.1.length ≤ p + l.length
  | [], p, x, h => by
    obtain rfl : x = ([], p) := by simpa [partsL] using h
    simp
  | b :: l, p, x, h => by
    obtain ⟨y, r, e⟩ := partsL_head c l (p + 1)
    have ih := fun z hz => parts_in (c := c) l (p + 1) z hz
    rw [e] at ih
    by_cases hb : b = c
    · subst hb
      rw [partsL_same, e] at h
      rcases List.mem_cons.1 h with rfl | h
      · simp
      · have := ih x h
        simp
        omega
    · rw [partsL_other hb e] at h
      rcases List.mem_cons.1 h with rfl | h
      · have := ih _ (List.mem_cons_self ..)
        simp at this ⊢
        omega
      · have := ih x (List.mem_cons_of_mem _ h)
        simp
        omega
theorem parts_few {c : UInt8} : ∀ (l : List UInt8) (p : Nat), (partsL c l p).length ≤ l.length + 1
  | [], p => by simp [partsL]
  | b :: l, p => by
    obtain ⟨y, r, e⟩ := partsL_head c l (p + 1)
    have ih := parts_few (c := c) l (p + 1)
    rw [e] at ih
    by_cases hb : b = c
    · subst hb
      rw [partsL_same, e]
      simp at ih ⊢
      omega
    · rw [partsL_other hb e]
      simp at ih ⊢
      omega
end Go.Proofs.YtfekjopchlokbaaDoor
