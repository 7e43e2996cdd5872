/-
  Plain words: a number's text is the library's numeral of it. No program is named here.
-/
import Derived.Test.YtcfnmjhelhdobaaGreatDoorManC
import Derived.Test.YtcfnmjhelhdobaaGreatDoorCodS
namespace Go.Proofs.YtcfnmjhelhdobaaGreatDoor

theorem digN_back : ∀ (k : Nat) (l : List UInt8), l.length = k → 1 ≤ k → (∀ d ∈ l, 48 ≤ d.toNat ∧ d.toNat ≤ 57) → (1 < k → ∀ d, l[0]? = some d → d.toNat ≠ 48) → digN (valD l) = l
  | 0, _, _, h, _, _ => absurd h (by omega)
  | k + 1, l, hk, _, hd, h0 => by
    obtain ⟨l', d, rfl⟩ : ∃ l' d, l = l' ++ [d] := by
      cases hl : l.reverse with
      | nil => rw [List.reverse_eq_nil_iff] at hl; subst hl; simp at hk
      | cons d r => exact ⟨r.reverse, d, by rw [← List.reverse_reverse l, hl, List.reverse_cons]⟩
    have hl' : l'.length = k := by simpa using hk
    have hdd := hd d (by simp)
    have hds : UInt8.ofNat (48 + (d.toNat - 48)) = d := by
      apply UInt8.toNat_inj.1
      rw [dig_val (by omega)]
      omega
    rw [valD_snoc]
    by_cases hk0 : k = 0
    · obtain rfl : l' = [] := List.eq_nil_of_length_eq_zero (by omega)
      have : valD [] = 0 := rfl
      rw [this, digN_low (by omega), show 10 * 0 + (d.toNat - 48) = d.toNat - 48 by omega, hds]
      rfl
    · obtain ⟨c, r, e⟩ : ∃ c r, l' = c :: r := by
        cases l' with
        | nil => simp at hl'; omega
        | cons c r => exact ⟨c, r, rfl⟩
      have hc := h0 (by omega) c (by rw [e]; simp)
      have hc2 := hd c (by rw [e]; simp)
      have hv : 1 ≤ valD l' := by
        have h1 := valD_le [c] r
        rw [List.singleton_append, ← e] at h1
        have h2 : valD [c] = c.toNat - 48 := by simp [valD]
        omega
      have ih := digN_back k l' hl' (by omega) (fun x hx => hd x (List.mem_append_left _ hx)) (fun _ x hx => h0 (by omega) x (by rw [e] at hx ⊢; simpa using hx))
      rw [digN_more (by omega), show (10 * valD l' + (d.toNat - 48)) / 10 = valD l' by omega, show (10 * valD l' + (d.toNat - 48)) % 10 = d.toNat - 48 by omega, ih, hds]
theorem digN_lt (n : Nat) : ∀ k, (digN n).length ≤ k → n < 10 ^ k := by
  induction n using Nat.strongRecOn with
  | ind n ih =>
    intro k hk
    have hp := digN_pos n
    obtain ⟨j, rfl⟩ : ∃ j, k = j + 1 := ⟨k - 1, by omega⟩
    rw [Nat.pow_succ]
    by_cases h : n < 10
    · have : 0 < 10 ^ j := Nat.pow_pos (by omega)
      omega
    · rw [digN_more h, List.length_append, List.length_singleton] at hk
      have := ih (n / 10) (by omega) j (by omega)
      omega
section
variable {t : ByteArray}
theorem byL_get {k : Nat} (h : k < t.size) : ∃ d, (bl t)[k]? = some d ∧ byL t k = (d.toNat : Int) := by
  have h2 : k < (bl t).length := by rw [bl_len]; exact h
  refine ⟨_, List.getElem?_eq_getElem h2, ?_⟩
  unfold byL
  rw [List.getD_eq_getElem?_getD, List.getElem?_eq_getElem h2]
  rfl
theorem valN_D (hd : ∀ j, j < t.size → 48 ≤ byL t j ∧ byL t j ≤ 57) : ∀ k, k ≤ t.size → valN t k = (valD ((bl t).take k) : Int)
  | 0, _ => rfl
  | k + 1, h => by
    have hlt : k < (bl t).length := by rw [bl_len]; omega
    have h1 := hd k (by omega)
    obtain ⟨d, e1, e2⟩ := byL_get (t := t) (k := k) (by omega)
    have e3 : (bl t)[k] = d := by rw [List.getElem?_eq_getElem hlt] at e1; exact Option.some.inj e1
    rw [take_next _ _ hlt, e3]
    unfold valN
    rw [valN_D hd k (by omega), e2]
    omega
/-- A number's text is its numeral. -/
theorem num_head (h : numOk t) : 0 ≤ valN t t.size ∧ valN t t.size < 1000000000 ∧ headT (valN t t.size) = bl t := by
  obtain ⟨h1, h2, h3, h4⟩ := h
  have hv := valN_D h4 t.size (Nat.le_refl _)
  rw [← bl_len, List.take_length] at hv
  rw [bl_len] at hv
  have hdd : ∀ d ∈ bl t, 48 ≤ d.toNat ∧ d.toNat ≤ 57 := fun d hd => by
    obtain ⟨i, hi, he⟩ := List.mem_iff_getElem.1 hd
    rw [bl_len] at hi
    have h5 := h4 i hi
    obtain ⟨d', e1, e2⟩ := byL_get hi
    have : d' = d := by
      have hi2 : i < (bl t).length := by rw [bl_len]; exact hi
      rw [List.getElem?_eq_getElem hi2, he] at e1
      exact (Option.some.inj e1).symm
    subst this
    omega
  have hb := digN_back (bl t).length (bl t) rfl (by rw [bl_len]; exact h1) hdd (fun hk d hd e => by
    rw [bl_len] at hk
    obtain ⟨d', e1, e2⟩ := byL_get (t := t) (k := 0) (by omega)
    rw [hd] at e1
    obtain rfl := Option.some.inj e1
    have := h3 hk
    omega)
  have hlt : valD (bl t) < 1000000000 := by
    have h5 := digN_lt (valD (bl t)) (bl t).length (by rw [hb]; exact Nat.le_refl _)
    rw [bl_len] at h5
    have h6 : 10 ^ t.size ≤ 10 ^ 9 := Nat.pow_le_pow_right (by omega) h2
    omega
  refine ⟨by omega, by omega, ?_⟩
  unfold headT
  rw [if_neg (by omega), hv]
  simpa using hb
theorem head_num {n : Int} (h0 : 0 ≤ n) (h : headT n = bl t) (hs : t.size ≤ 9) : numOk t ∧ valN t t.size = n := by
  have hh : digN n.natAbs = bl t := by
    unfold headT at h
    rw [if_neg (by omega)] at h
    simpa using h
  have hdd : ∀ j, j < t.size → 48 ≤ byL t j ∧ byL t j ≤ 57 := fun j hj => by
    obtain ⟨d, e1, e2⟩ := byL_get hj
    have := digN_digit n.natAbs d (by rw [hh]; exact List.mem_of_getElem? e1)
    omega
  have h1 : 1 ≤ t.size := by rw [← bl_len, ← hh]; exact digN_pos _
  have hok : numOk t := by
    refine ⟨h1, hs, fun hk e => ?_, hdd⟩
    by_cases hz : n = 0
    · subst hz
      have h9 : t.size = 1 := by
        rw [← bl_len, ← hh]
        show (digN 0).length = 1
        rw [digN_low (by omega)]
        rfl
      omega
    · obtain ⟨d, l, e1, e2, _⟩ := digN_head (n := n.natAbs) (by omega)
      rw [hh] at e1
      obtain ⟨d', e3, e4⟩ := byL_get (t := t) (k := 0) (by omega)
      rw [e1] at e3
      obtain rfl : d = d' := by simpa using e3
      omega
  refine ⟨hok, ?_⟩
  have hv := valN_D hdd t.size (Nat.le_refl _)
  have e : (bl t).take t.size = bl t := by rw [← bl_len, List.take_length]
  rw [e, ← hh, digN_val] at hv
  omega
theorem numP_long {lo hi : Int} (h : 9 < t.size) : numP t lo hi = none := if_neg (fun k => by have := k.1.2.1; omega)
theorem numP_none {lo hi : Int} (h : ∀ v, Lib.atoiAll (bl t) ≠ .ok v) : numP t lo hi = none := if_neg (fun k => by
  obtain ⟨a, b, c⟩ := num_head k.1
  exact h _ (by rw [← c]; exact atoi_head (by omega) (by omega)))
theorem numP_other {lo hi n : Int} (h : Lib.atoiAll (bl t) = .ok n) (hn : headT n ≠ bl t) : numP t lo hi = none := if_neg (fun k => by
  obtain ⟨a, b, c⟩ := num_head k.1
  have := atoi_head (n := valN t t.size) (by omega) (by omega)
  rw [c, h] at this
  injection this with e
  rw [e] at hn
  exact hn c)
theorem numP_low {lo hi n : Int} (hn : headT n = bl t) (h : n < 0 ∨ n < lo) : numP t lo hi = none := if_neg (fun k => by
  obtain ⟨a, b, c⟩ := num_head k.1
  have e := headT_inj (hn.trans c.symm)
  have := k.2.1
  omega)
theorem numP_high {lo hi n : Int} (hn : headT n = bl t) (h : hi < n) : numP t lo hi = none := if_neg (fun k => by
  obtain ⟨a, b, c⟩ := num_head k.1
  have e := headT_inj (hn.trans c.symm)
  have := k.2.2
  omega)
theorem numP_yes {lo hi n : Int} (hn : headT n = bl t) (hs : t.size ≤ 9) (h0 : 0 ≤ n) (h1 : lo ≤ n) (h2 : n ≤ hi) : numP t lo hi = some n := by
  obtain ⟨a, b⟩ := head_num h0 hn hs
  unfold numP
  rw [b, if_pos ⟨a, h1, h2⟩]
end
end Go.Proofs.YtcfnmjhelhdobaaGreatDoor
