/-
  Plain words of texts that are written one behind the other: numbers' digits, numbers' and texts' texts, and what stands at a text's front. No program is named here.
-/
import Derived.Test.YthmjeibanofliaaDoorSecQ
namespace Go.Proofs.YthmjeibanofliaaDoor

/-- A number's digits. -/
def digN (n : Nat) : List UInt8 := if _h : n < 10 then [UInt8.ofNat (48 + n)] else digN (n / 10) ++ [UInt8.ofNat (48 + n % 10)]
termination_by n
decreasing_by omega
theorem digN_low {n : Nat} (h : n < 10) : digN n = [UInt8.ofNat (48 + n)] := by
  rw [digN, dif_pos h]
theorem digN_more {n : Nat} (h : ¬ n < 10) : digN n = digN (n / 10) ++ [UInt8.ofNat (48 + n % 10)] := by
  rw [digN, dif_neg h]
/-- What digits are worth. -/
def valD (l : List UInt8) : Nat := l.foldl (fun a d => 10 * a + (d.toNat - 48)) 0
theorem valD_snoc (l : List UInt8) (d : UInt8) : valD (l ++ [d]) = 10 * valD l + (d.toNat - 48) := by simp [valD]
theorem dig_val {k : Nat} (h : k < 10) : (UInt8.ofNat (48 + k)).toNat = 48 + k := by
  rw [UInt8.toNat_ofNat']
  omega
theorem digN_val (n : Nat) : valD (digN n) = n := by
  induction n using Nat.strongRecOn with
  | ind n ih =>
    by_cases h : n < 10
    · rw [digN_low h]
      simp only [valD, List.foldl_cons, List.foldl_nil, dig_val h]
      omega
    · rw [digN_more h, valD_snoc, ih (n / 10) (by omega), dig_val (by omega)]
      omega
theorem digN_inj {a b : Nat} (h : digN a = digN b) : a = b := by
  rw [← digN_val a, h, digN_val]
theorem digN_digit (n : Nat) : ∀ d ∈ digN n, 48 ≤ d.toNat ∧ d.toNat ≤ 57 := by
  induction n using Nat.strongRecOn with
  | ind n ih =>
    intro d hd
    by_cases h : n < 10
    · rw [digN_low h, List.mem_singleton] at hd
      rw [hd, dig_val h]
      omega
    · rw [digN_more h, List.mem_append, List.mem_singleton] at hd
      rcases hd with hd | hd
      · exact ih (n / 10) (by omega) d hd
      · rw [hd, dig_val (by omega)]
        omega
theorem digN_len (n : Nat) : ∀ k, 1 ≤ k → n < 10 ^ k → (digN n).length ≤ k := by
  induction n using Nat.strongRecOn with
  | ind n ih =>
    intro k hk hn
    by_cases h : n < 10
    · rw [digN_low h]; exact hk
    · rw [digN_more h, List.length_append, List.length_singleton]
      obtain ⟨j, rfl⟩ : ∃ j, k = j + 1 := ⟨k - 1, by omega⟩
      rw [Nat.pow_succ] at hn
      by_cases hj : j = 0
      · subst hj; omega
      · have := ih (n / 10) (by omega) j (by omega) (by omega)
        omega
theorem digN_pos (n : Nat) : 1 ≤ (digN n).length := by
  by_cases h : n < 10
  · rw [digN_low h]; exact Nat.le_refl _
  · rw [digN_more h, List.length_append, List.length_singleton]; omega
/-- No nought ahead, but of 0 itself. -/
theorem digN_head {n : Nat} (h : 0 < n) : ∃ d l, digN n = d :: l ∧ 49 ≤ d.toNat ∧ d.toNat ≤ 57 := by
  induction n using Nat.strongRecOn with
  | ind n ih =>
    by_cases h1 : n < 10
    · rw [digN_low h1]
      exact ⟨_, [], rfl, by rw [dig_val h1]; omega, by rw [dig_val h1]; omega⟩
    · obtain ⟨d, l, e, h2, h3⟩ := ih (n / 10) (by omega) (by omega)
      rw [digN_more h1, e]
      exact ⟨d, _, rfl, h2, h3⟩

/-- A number's text. -/
def numT (n : Int) : List UInt8 := (if n < 0 then [45] else []) ++ digN n.natAbs ++ [44]
/-- All ahead of the comma. -/
def headT (n : Int) : List UInt8 := (if n < 0 then [45] else []) ++ digN n.natAbs
theorem numT_head (n : Int) : numT n = headT n ++ [44] := rfl
theorem headT_none (n : Int) : ∀ d ∈ headT n, d ≠ 44 := by
  intro d hd e
  subst e
  unfold headT at hd
  rw [List.mem_append] at hd
  rcases hd with hd | hd
  · split at hd
    · rw [List.mem_singleton] at hd; exact absurd hd (by decide)
    · cases hd
  · have := digN_digit _ _ hd
    exact absurd this (by decide)
theorem split_first {a b x y : List UInt8} (ha : ∀ d ∈ a, d ≠ 44) (hb : ∀ d ∈ b, d ≠ 44) (h : a ++ 44 :: x = b ++ 44 :: y) : a = b ∧ x = y := by
  induction a generalizing b with
  | nil =>
    cases b with
    | nil => exact ⟨rfl, (List.cons.inj h).2⟩
    | cons d b => exact absurd (List.cons.inj h).1.symm (hb d (List.mem_cons_self ..))
  | cons c a ih =>
    cases b with
    | nil => exact absurd (List.cons.inj h).1 (ha c (List.mem_cons_self ..))
    | cons d b =>
      obtain ⟨h1, h2⟩ := List.cons.inj h
      obtain ⟨h3, h4⟩ := ih (fun e he => ha e (List.mem_cons_of_mem _ he)) (fun e he => hb e (List.mem_cons_of_mem _ he)) h2
      exact ⟨by rw [h1, h3], h4⟩
theorem headT_inj {a b : Int} (h : headT a = headT b) : a = b := by
  unfold headT at h
  have dash : ∀ n l, digN n ≠ 45 :: l := fun n l e => by
    have := digN_digit n 45 (by rw [e]; exact List.mem_cons_self ..)
    exact absurd this (by decide)
  by_cases ha : a < 0
  · by_cases hb : b < 0
    · rw [if_pos ha, if_pos hb] at h
      have := digN_inj (List.cons.inj h).2
      omega
    · rw [if_pos ha, if_neg hb] at h
      exact absurd h.symm (dash _ _)
  · by_cases hb : b < 0
    · rw [if_neg ha, if_pos hb] at h
      exact absurd h (dash _ _)
    · rw [if_neg ha, if_neg hb] at h
      have := digN_inj h
      omega
/-- No number's text is another one's beginning. -/
theorem numT_front {a b : Int} {x y : List UInt8} (h : numT a ++ x = numT b ++ y) : a = b ∧ x = y := by
  rw [numT_head, numT_head, List.append_assoc, List.append_assoc] at h
  obtain ⟨h1, h2⟩ := split_first (headT_none a) (headT_none b) h
  exact ⟨headT_inj h1, h2⟩
theorem headT_len {n : Int} (h0 : -9223372036854775808 ≤ n) (h1 : n ≤ 9223372036854775807) : 1 ≤ (headT n).length ∧ (headT n).length ≤ 20 := by
  have h2 := digN_len n.natAbs 19 (by omega) (by omega)
  have h3 := digN_pos n.natAbs
  unfold headT
  rw [List.length_append]
  split
  · simp; omega
  · simp; omega

/-- What is taken from a text's front: a number from lo to hi, or none. -/
def Takes (S : List UInt8) (lo hi : Int) (r : Option (Int × List UInt8)) : Prop :=
  (∃ n rest, -9223372036854775808 ≤ n ∧ n ≤ 9223372036854775807 ∧ S = numT n ++ rest ∧ lo ≤ n ∧ n ≤ hi ∧ r = some (n, rest)) ∨
    ((¬ ∃ n rest, -9223372036854775808 ≤ n ∧ n ≤ 9223372036854775807 ∧ S = numT n ++ rest ∧ lo ≤ n ∧ n ≤ hi) ∧ r = none)
theorem takes_one {S : List UInt8} {lo hi : Int} {r q : Option (Int × List UInt8)} (h : Takes S lo hi r) (k : Takes S lo hi q) : r = q := by
  rcases h with ⟨n, x, a1, a2, a3, a4, a5, rfl⟩ | ⟨a1, rfl⟩ <;> rcases k with ⟨m, y, b1, b2, b3, b4, b5, rfl⟩ | ⟨b1, rfl⟩
  · rw [a3] at b3
    obtain ⟨rfl, rfl⟩ := numT_front b3
    rfl
  · exact absurd ⟨n, x, a1, a2, a3, a4, a5⟩ b1
  · exact absurd ⟨m, y, b1, b2, b3, b4, b5⟩ a1
  · rfl
theorem takes_some (S : List UInt8) (lo hi : Int) : ∃ r, Takes S lo hi r := by
  by_cases h : ∃ n rest, -9223372036854775808 ≤ n ∧ n ≤ 9223372036854775807 ∧ S = numT n ++ rest ∧ lo ≤ n ∧ n ≤ hi
  · obtain ⟨n, rest, a1, a2, a3, a4, a5⟩ := h
    exact ⟨_, .inl ⟨n, rest, a1, a2, a3, a4, a5, rfl⟩⟩
  · exact ⟨none, .inr ⟨h, rfl⟩⟩
end Go.Proofs.YthmjeibanofliaaDoor
