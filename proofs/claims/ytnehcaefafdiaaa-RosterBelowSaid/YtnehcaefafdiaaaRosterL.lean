/-
  What the document's New (package lockageref02) answers: the same as roster.fault. No conditions but how the lists lie in memory.
-/
import Derived.Test.YtnehcaefafdiaaaRosterK
import Derived.WalkKit
namespace Go.Proofs.Ytnehcaefafdiaaa
open Go.RowKit

section
variable {A B : Option Addr} {n m c d : Nat} {lv st pt al au : Nat → Int} {w : World}

theorem faultV_tail (h1 : 0 < n) (h4 : n ≤ 4) (h12 : m ≤ 12) : faultV n m lv st pt al = if anyN (fun i => !rightB (lv i)) n then 1 else if anyN (fun i => !rightB (al i)) m then 1
    else if twiceB n lv st then 7 else if anyN (fun i => !thereB (pt i) n) m then 2 else 0 := by unfold faultV; rw [if_neg (by omega)]
theorem fv_lab {k : Nat} (h1 : 0 < n) (h4 : n ≤ 4) (h12 : m ≤ 12) (hk : k < n) (h : rightB (lv k) = false) : faultV n m lv st pt al = 1 := by
  rw [faultV_tail h1 h4 h12, anyN_yes (p := fun i => !rightB (lv i)) hk (by simp [h])]; rfl
theorem all_no {p : Nat → Bool} {n : Nat} (h : ∀ i, i < n → p i = true) : anyN (fun i => !p i) n = false := anyN_no fun i hi => by simp [h i hi]
theorem fv_auth {k : Nat} (h1 : 0 < n) (h4 : n ≤ 4) (h12 : m ≤ 12) (hl : ∀ i, i < n → rightB (lv i) = true) (hk : k < m) (h : rightB (al k) = false) : faultV n m lv st pt al = 1 := by
  rw [faultV_tail h1 h4 h12, all_no hl, anyN_yes (p := fun i => !rightB (al i)) hk (by simp [h])]; rfl
theorem fv_twice {k j : Nat} (h1 : 0 < n) (h4 : n ≤ 4) (h12 : m ≤ 12) (hl : ∀ i, i < n → rightB (lv i) = true) (ha : ∀ i, i < m → rightB (al i) = true) (hk : k < n) (hj : j < k) (h : sameB (lv k) (st k) (lv j) (st j) = true) : faultV n m lv st pt al = 7 := by
  have e : twiceB n lv st = true := anyN_yes (p := fun i => anyN (fun j => sameB (lv i) (st i) (lv j) (st j)) i) hk (anyN_yes (p := fun j => sameB (lv k) (st k) (lv j) (st j)) hj h)
  rw [faultV_tail h1 h4 h12, all_no hl, all_no ha, e]; rfl
theorem no_twice (ht : ∀ i, i < n → ∀ j, j < i → sameB (lv i) (st i) (lv j) (st j) = false) : twiceB n lv st = false := anyN_no fun i hi => anyN_no fun j hj => ht i hi j hj
theorem fv_part {k : Nat} (h1 : 0 < n) (h4 : n ≤ 4) (h12 : m ≤ 12) (hl : ∀ i, i < n → rightB (lv i) = true) (ha : ∀ i, i < m → rightB (al i) = true) (ht : ∀ i, i < n → ∀ j, j < i → sameB (lv i) (st i) (lv j) (st j) = false) (hk : k < m) (h : thereB (pt k) n = false) : faultV n m lv st pt al = 2 := by
  rw [faultV_tail h1 h4 h12, all_no hl, all_no ha, no_twice ht, anyN_yes (p := fun i => !thereB (pt i) n) hk (by simp [h])]; rfl
theorem fv_ok (h1 : 0 < n) (h4 : n ≤ 4) (h12 : m ≤ 12) (hl : ∀ i, i < n → rightB (lv i) = true) (ha : ∀ i, i < m → rightB (al i) = true) (ht : ∀ i, i < n → ∀ j, j < i → sameB (lv i) (st i) (lv j) (st j) = false) (hp : ∀ i, i < m → thereB (pt i) n = true) : faultV n m lv st pt al = 0 := by
  rw [faultV_tail h1 h4 h12, all_no hl, all_no ha, no_twice ht, all_no (p := fun i => thereB (pt i) n) hp]; rfl

theorem more {P : Nat → Prop} {k : Nat} (h : ∀ i, i < k → P i) (hk : P k) : ∀ i, i < k + 1 → P i := fun i hi => by
  by_cases e : i = k
  · rw [e]; exact hk
  · exact h i (by omega)

set_option maxHeartbeats 400000 in
theorem refnew_len (h : n = 0 ∨ 4 < n ∨ 12 < m) :
    Calls Try.prog 9 #[.slice A n c, .slice B m d] w fun e w' => e = .returned (.int .i64 1) ∧ Below w.heap.size w w' := by
  by_cases h0 : n = 0
  · subst h0
    clear h
    go_enter Try.func9, Try.ntmps9
    go_wp2
    go_ret
    exact ⟨rfl, Below.refl _ _⟩
  by_cases h4 : 4 < n
  · have h1 : ¬ n < 1 := by omega
    clear h
    go_enter Try.func9, Try.ntmps9
    go_wp2
    go_ret
    exact ⟨rfl, Below.refl _ _⟩
  · have h12 : 12 < m := by omega
    have h1 : ¬ n < 1 := by omega
    clear h
    go_enter Try.func9, Try.ntmps9
    go_wp2
    go_ret
    exact ⟨rfl, Below.refl _ _⟩

set_option maxHeartbeats 2000000 in
theorem refnew_all (hl : LabsAt w A n lv st) (hp : PepsAt w B m pt al au) (h1 : 0 < n) (h4 : n ≤ 4) (h12 : m ≤ 12) :
    Calls Try.prog 9 #[.slice A n c, .slice B m d] w fun e w' => e = .returned (.int .i64 (faultV n m lv st pt al)) ∧ Below w.heap.size w w' := by
  have HL := Lib.hid hl
  have HP := Lib.hid hp
  have h1' : ¬ n < 1 := by omega
  have h4' : ¬ 4 < n := by omega
  have h12' : ¬ 12 < m := by omega
  clear hl hp
  go_enter Try.func9, Try.ntmps9
  go_wp2
  go_loopw [5] (fun i wr => ∃ k : Nat, k ≤ n ∧ i = .int .i64 k ∧ Hid (∀ j, j < k → rightB (lv j) = true) ∧ Below w.heap.size w wr) (fun i _ => n - (intOf i).toNat)
  case atStart => exact ⟨0, Nat.zero_le _, rfl, Lib.hid (fun _ h => absurd h (by omega)), Below.refl _ _⟩
  case round =>
    obtain ⟨k, hk, rfl, H1, hB⟩ := hrel
    by_cases hlt : k < n
    · obtain ⟨ad, rfl, c0, c1⟩ := (HL.out.later hB).at_ hlt
      cases hr : rightB (lv k)
      · go_wp2_with (go_at_call 28; refine (refright_is _ _ false hr _).mono ?_; rintro e w1 ⟨rfl, hb⟩)
        go_ret
        exact ⟨ret_int (fv_lab h1 h4 h12 hlt hr).symm, below_step hB hb⟩
      · go_wp2_with (go_at_call 28; refine (refright_is _ _ true hr _).mono ?_; rintro e w1 ⟨rfl, hb⟩)
        go_roundw
        case rel => exact ⟨k + 1, by omega, by go_num, Lib.hid (more H1.out hr), below_step hB hb⟩
        case measure => simp [intOf]; omega
    obtain rfl : k = n := by omega
    obtain ⟨wo, rfl⟩ : ∃ wo : World, wo = wr := ⟨_, rfl⟩
    go_wp2
    go_loopw [6] (fun i wr => ∃ q : Nat, q ≤ m ∧ i = .int .i64 q ∧ Hid (∀ j, j < q → rightB (al j) = true) ∧ Below w.heap.size w wr) (fun i _ => m - (intOf i).toNat)
    case atStart => exact ⟨0, Nat.zero_le _, rfl, Lib.hid (fun _ h => absurd h (by omega)), hB⟩
    case round =>
      clear hB
      obtain ⟨q, hq, rfl, H2, hB⟩ := hrel
      by_cases hlt2 : q < m
      · obtain ⟨ad, rfl, c0, c1, c2⟩ := (HP.out.later hB).at_ hlt2
        cases hr : rightB (al q)
        · go_wp2_with (go_at_call 28; refine (refright_is _ _ false hr _).mono ?_; rintro e w1 ⟨rfl, hb⟩)
          go_ret
          exact ⟨ret_int (fv_auth h1 h4 h12 H1.out hlt2 hr).symm, below_step hB hb⟩
        · go_wp2_with (go_at_call 28; refine (refright_is _ _ true hr _).mono ?_; rintro e w1 ⟨rfl, hb⟩)
          go_roundw
          case rel => exact ⟨q + 1, by omega, by go_num, Lib.hid (more H2.out hr), below_step hB hb⟩
          case measure => simp [intOf]; omega
      obtain rfl : q = m := by omega
      clear wo
      obtain ⟨wo, rfl⟩ : ∃ wo : World, wo = wr := ⟨_, rfl⟩
      go_wp2
      go_loopw [7] (fun i wr => ∃ a : Nat, a ≤ k ∧ i = .int .i64 a ∧ Hid (∀ x, x < a → ∀ j, j < x → sameB (lv x) (st x) (lv j) (st j) = false) ∧ Below w.heap.size w wr) (fun i _ => k - (intOf i).toNat)
      case atStart => exact ⟨0, Nat.zero_le _, rfl, Lib.hid (fun _ h => absurd h (by omega)), hB⟩
      case round =>
        clear hB
        obtain ⟨a, ha, rfl, H3, hB⟩ := hrel
        by_cases hlt3 : a < k
        · clear wo
          obtain ⟨wo, rfl⟩ : ∃ wo : World, wo = wr := ⟨_, rfl⟩
          go_wp2
          go_loopw [8] (fun i wr => ∃ b : Nat, b ≤ a ∧ i = .int .i64 b ∧ Hid (∀ j, j < b → sameB (lv a) (st a) (lv j) (st j) = false) ∧ Below w.heap.size w wr) (fun i _ => a - (intOf i).toNat)
          case atStart => exact ⟨0, Nat.zero_le _, rfl, Lib.hid (fun _ h => absurd h (by omega)), hB⟩
          case round =>
            clear hB
            obtain ⟨b, hb, rfl, H4, hB⟩ := hrel
            by_cases hlt4 : b < a
            · obtain ⟨ad, rfl, c0, c1⟩ := (HL.out.later hB).at_ hlt3
              obtain ⟨ad', e', d0, d1⟩ := (HL.out.later hB).at_ (show b < k by omega)
              injection e' with e'
              subst e'
              cases hs : sameB (lv a) (st a) (lv b) (st b)
              · go_wp2
                go_quiet (fail)
                go_wp2
                go_roundw
                case rel => exact ⟨b + 1, by omega, by go_num, Lib.hid (more H4.out hs), below_drewN hB _⟩
                case measure => simp [intOf]; omega
              · go_wp2
                go_quiet (fail)
                go_wp2
                go_ret
                exact ⟨ret_int (fv_twice h1 h4 h12 H1.out H2.out hlt3 hlt4 hs).symm, below_drewN hB _⟩
            · obtain rfl : b = a := by omega
              go_wp2
              go_roundw
              case rel => exact ⟨b + 1, by omega, by go_num, Lib.hid (more H3.out H4.out), hB⟩
              case measure => simp [intOf]; omega
        obtain rfl : a = k := by omega
        clear wo
        obtain ⟨wo, rfl⟩ : ∃ wo : World, wo = wr := ⟨_, rfl⟩
        go_wp2
        go_loopw [9] (fun i wr => ∃ b : Nat, b ≤ q ∧ i = .int .i64 b ∧ Hid (∀ j, j < b → thereB (pt j) a = true) ∧ Below w.heap.size w wr) (fun i _ => q - (intOf i).toNat)
        case atStart => exact ⟨0, Nat.zero_le _, rfl, Lib.hid (fun _ h => absurd h (by omega)), hB⟩
        case round =>
          clear hB
          obtain ⟨b, hb, rfl, H4, hB⟩ := hrel
          by_cases hlt5 : b < q
          · obtain ⟨ad, rfl, c0, c1, c2⟩ := (HP.out.later hB).at_ hlt5
            by_cases p0 : pt b < 0
            · go_wp2
              go_ret
              exact ⟨ret_int (fv_part h1 h4 h12 H1.out H2.out H3.out hlt5 (by simp [thereB]; omega)).symm, hB⟩
            · by_cases p1 : (a : Int) ≤ pt b
              · go_wp2
                go_ret
                exact ⟨ret_int (fv_part h1 h4 h12 H1.out H2.out H3.out hlt5 (by simp [thereB]; omega)).symm, hB⟩
              · go_wp2
                go_roundw
                case rel => exact ⟨b + 1, by omega, by go_num, Lib.hid (more H4.out (by simp [thereB]; omega)), hB⟩
                case measure => simp [intOf]; omega
          · obtain rfl : b = q := by omega
            go_wp2
            go_ret
            exact ⟨ret_int (fv_ok h1 h4 h12 H1.out H2.out H3.out H4.out).symm, hB⟩

theorem refnew_is (hl : LabsAt w A n lv st) (hp : PepsAt w B m pt al au) :
    Calls Try.prog 9 #[.slice A n c, .slice B m d] w fun e w' => e = .returned (.int .i64 (faultV n m lv st pt al)) ∧ Below w.heap.size w w' := by
  by_cases h : n = 0 ∨ 4 < n ∨ 12 < m
  · rw [faultV_len lv st pt al h]
    exact refnew_len h
  · exact refnew_all hl hp (by omega) (by omega) (by omega)

end
end Go.Proofs.Ytnehcaefafdiaaa
