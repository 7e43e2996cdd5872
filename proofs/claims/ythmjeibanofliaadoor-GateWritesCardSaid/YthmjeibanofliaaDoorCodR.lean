/-
  Plain words of such texts, on: what stands ahead of the first comma, byte by byte. No program is named here.
-/
import Derived.Test.YthmjeibanofliaaDoorCodQ
namespace Go.Proofs.YthmjeibanofliaaDoor

/-- A text's byte. -/
def byI (s : ByteArray) (i : Nat) : Int := (((bl s).getD i 0).toNat : Int)
theorem byI_at (s : ByteArray) (i : Nat) (h : i < s.size) : ((s[i]'h).toNat : Int) = byI s i := by
  have h2 : i < (bl s).length := by rw [bl_len]; exact h
  unfold byI
  rw [List.getD_eq_getElem?_getD, List.getElem?_eq_getElem h2, Option.getD_some]
  rfl
theorem byI_range (s : ByteArray) (i : Nat) : 0 ≤ byI s i ∧ byI s i ≤ 255 := by
  unfold byI
  have := ((bl s).getD i 0).toNat_lt
  omega
theorem byI_get {s : ByteArray} {i : Nat} (h : i < s.size) : ∃ c : UInt8, (bl s)[i]? = some c ∧ byI s i = (c.toNat : Int) := by
  have h2 : i < (bl s).length := by rw [bl_len]; exact h
  refine ⟨(bl s)[i], List.getElem?_eq_getElem h2, ?_⟩
  unfold byI
  rw [List.getD_eq_getElem?_getD, List.getElem?_eq_getElem h2, Option.getD_some]
theorem byte_is {c : UInt8} {k : Nat} (h : c.toNat = k) (hk : k < 256) : c = UInt8.ofNat k := by
  apply UInt8.toNat_inj.1
  rw [h, UInt8.toNat_ofNat']
  omega
section
variable {L : List UInt8} {k : Nat} {m : Int} {rest : List UInt8}
theorem split_at_comma (hk : L[k]? = some 44) : L = L.take k ++ 44 :: L.drop (k + 1) := by
  have hlt : k < L.length := (List.getElem?_eq_some_iff.1 hk).1
  have h1 : L[k] = 44 := (List.getElem?_eq_some_iff.1 hk).2
  rw [← h1, List.getElem_cons_drop, List.take_append_drop]
theorem num_at (hk : L[k]? = some 44) (hb : ∀ j, j < k → L[j]? ≠ some 44) (h : L = numT m ++ rest) : L.take k = headT m ∧ rest = L.drop (k + 1) := by
  have h1 := split_at_comma hk
  have h2 : ∀ d ∈ L.take k, d ≠ 44 := by
    intro d hd e
    subst e
    obtain ⟨j, hj, e⟩ := List.mem_iff_getElem.1 hd
    rw [List.length_take] at hj
    refine hb j (by omega) ?_
    rw [List.getElem?_eq_getElem (by omega)]
    rw [List.getElem_take] at e
    rw [e]
  have h3 : L.take k ++ 44 :: L.drop (k + 1) = headT m ++ 44 :: rest := by
    rw [← h1, h, numT_head, List.append_assoc, List.singleton_append]
  obtain ⟨h4, h5⟩ := split_first h2 (headT_none m) h3
  exact ⟨h4, h5.symm⟩
theorem num_back (hk : L[k]? = some 44) (h : L.take k ++ [44] = numT m) : L = numT m ++ L.drop (k + 1) := by
  have h1 := split_at_comma hk
  rw [← h, List.append_assoc, List.singleton_append]
  exact h1
theorem head_neg (m : Int) : (headT m)[0]? = some 45 ↔ m < 0 := by
  unfold headT
  split
  · rename_i h
    simp [h]
  · rename_i h
    rw [List.nil_append]
    refine ⟨fun e => ?_, fun e => absurd e h⟩
    have := digN_digit m.natAbs 45 (List.mem_of_getElem? e)
    exact absurd this (by decide)
theorem head_digit {i : Nat} {c : UInt8} (hi : (headT m)[i]? = some c) (h : m < 0 → 0 < i) : 48 ≤ c.toNat ∧ c.toNat ≤ 57 := by
  unfold headT at hi
  split at hi
  · rename_i hm
    have h0 := h hm
    obtain ⟨j, rfl⟩ : ∃ j, i = j + 1 := ⟨i - 1, by omega⟩
    rw [List.cons_append, List.getElem?_cons_succ, List.nil_append] at hi
    exact digN_digit _ _ (List.mem_of_getElem? hi)
  · rw [List.nil_append] at hi
    exact digN_digit _ _ (List.mem_of_getElem? hi)
theorem head_drop (m : Int) : valD ((headT m).drop (if m < 0 then 1 else 0)) = m.natAbs := by
  have := headT_val m
  split
  · rename_i h; rw [if_pos h] at this; exact this
  · rename_i h; rw [if_neg h] at this; rw [List.drop_zero]; exact this
/-- The digits from b on, up to i. -/
def upTo (T : List UInt8) (b i : Nat) : Nat := valD ((T.drop b).take (i - b))
theorem upTo_start (T : List UInt8) (b : Nat) : upTo T b b = 0 := by
  unfold upTo
  rw [Nat.sub_self, List.take_zero]
  rfl
theorem upTo_next {T : List UInt8} {b i : Nat} {c : UInt8} (hb : b ≤ i) (hc : T[i]? = some c) : upTo T b (i + 1) = 10 * upTo T b i + (c.toNat - 48) := by
  have h1 : (T.drop b)[i - b]? = some c := by rw [List.getElem?_drop, show b + (i - b) = i by omega]; exact hc
  obtain ⟨h2, h3⟩ := List.getElem?_eq_some_iff.1 h1
  unfold upTo
  rw [show i + 1 - b = i - b + 1 by omega, take_next _ _ h2, h3]
theorem upTo_le {T : List UInt8} {b i : Nat} {c : UInt8} (hb : b ≤ i) (hc : T[i]? = some c) : 10 * upTo T b i + (c.toNat - 48) ≤ valD (T.drop b) := by
  have h1 : (T.drop b)[i - b]? = some c := by rw [List.getElem?_drop, show b + (i - b) = i by omega]; exact hc
  obtain ⟨h2, h3⟩ := List.getElem?_eq_some_iff.1 h1
  have := valD_next _ _ h2
  rw [h3] at this
  exact this
theorem upTo_all (T : List UInt8) (b : Nat) : upTo T b T.length = valD (T.drop b) := by
  unfold upTo
  rw [← List.length_drop, List.take_length]
end
end Go.Proofs.YthmjeibanofliaaDoor
