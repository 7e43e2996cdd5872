/-
  What the document's own words for labels (package lockageref01: bit, Join, Meet, Leq, Off) answer, whatever they are given. No conditions.
-/
import Derived.Test.YtnehcaefafdiaaaLabelA
import Derived.RegionTactic
import Derived.ChangeAlike
import Derived.Deep.Draws
import Derived.WalkSmall
namespace Go.Proofs.Ytnehcaefafdiaaa
open Go.RowKit

set_option maxHeartbeats 400000 in
theorem bit_any (s i : Int) (hi : 0 ≤ i) (hi' : i < 16) (w : World) :
    Calls Try.prog 35 #[.int .u16 s, .int .i64 i] w fun e w' => e = .returned (.bool (bitB s i)) ∧ w = w' := by
  go_enter Try.func35, Try.ntmps35
  go_wp2
  go_ret
  exact ⟨rfl, rfl⟩

@[go_sem] theorem setCell_drewN (w : World) (n : Nat) (a : Addr) (v : Value) : (w.drewN n).setCell a v = (w.setCell a v).drewN n := rfl

/-- The world in the middle of such a loop: the two labels that came in, the answer's place, what was added up so far; and draws. -/
abbrev midW (w : World) (l s m t lv a : Int) (n : Nat) : World :=
  ((((w.alloc (.cells #[.int .i64 l, .int .u16 s] 26)).alloc (.cells #[.int .i64 m, .int .u16 t] 26)).alloc (.cells #[.int .i64 0, .int .u16 0] 26)).alloc (.cells #[.int .i64 lv, .int .u16 a] 26)).drewN n

theorem acc_no {f : Nat → Bool} {k : Nat} (h : f k = false) : acc f (k + 1) = acc f k := by simp [acc, h]
theorem acc_yes {f : Nat → Bool} {k : Nat} (h : f k = true) : acc f (k + 1) = IntKind.u16.wrap (acc f k + IntKind.u16.wrap (2 ^ k)) := by simp [acc, h]

set_option maxHeartbeats 1000000 in
theorem refjoin_is (l s m t : Int) (w : World) :
    Calls Try.prog 24 #[.agg #[.int .i64 l, .int .u16 s], .agg #[.int .i64 m, .int .u16 t]] w fun e w' => e = .returned (.agg #[.int .i64 (mxI l m), .int .u16 (acc (fun k => bitB s k || bitB t k) 16)]) ∧ Below w.heap.size w w' := by
  by_cases h : l < m
  · have HL := Lib.hid (show mxI l m = m by unfold mxI; rw [if_pos h])
    generalize mxI l m = lw at *
    go_enter Try.func24, Try.ntmps24
    go_wp2_with fail
    go_loopw [6] (fun i wr => ∃ k n : Nat, k ≤ 16 ∧ i = .int .i64 k ∧ wr = midW w l s m t m (acc (fun k => bitB s k || bitB t k) k) n) (fun i _ => 16 - (intOf i).toNat)
    case atStart => exact ⟨0, 0, by omega, rfl, rfl⟩
    case round =>
      obtain ⟨k, n, hk, rfl, rfl⟩ := hrel
      by_cases hlt : k < 16
      · cases hb : bitB s k <;> cases hc : bitB t k
        · have HA := Lib.hid (acc_no (f := (fun k => bitB s k || bitB t k)) (k := k) (by simp [hb, hc]))
          generalize acc (fun k => bitB s k || bitB t k) k = a at *
          go_wp2_with (go_at_call 35; refine (bit_any _ _ (by omega) (by omega) _).mono ?_; rintro e w1 ⟨rfl, rfl⟩)
          go_roundw
          case rel => exact ⟨k + 1, n, by omega, by go_num, by rw [HA.out]⟩
          case measure => simp [intOf]; omega
        · have HA := Lib.hid (acc_yes (f := (fun k => bitB s k || bitB t k)) (k := k) (by simp [hb, hc]))
          generalize acc (fun k => bitB s k || bitB t k) k = a at *
          go_wp2_with (go_at_call 35; refine (bit_any _ _ (by omega) (by omega) _).mono ?_; rintro e w1 ⟨rfl, rfl⟩)
          go_region
          all_goals go_wp2
          all_goals
            go_roundw
            case rel => exact ⟨k + 1, n + 1, by omega, by go_num, by rw [HA.out]⟩
            case measure => simp [intOf]; omega
        · have HA := Lib.hid (acc_yes (f := (fun k => bitB s k || bitB t k)) (k := k) (by simp [hb, hc]))
          generalize acc (fun k => bitB s k || bitB t k) k = a at *
          go_wp2_with (go_at_call 35; refine (bit_any _ _ (by omega) (by omega) _).mono ?_; rintro e w1 ⟨rfl, rfl⟩)
          go_region
          all_goals go_wp2
          all_goals
            go_roundw
            case rel => exact ⟨k + 1, n + 1, by omega, by go_num, by rw [HA.out]⟩
            case measure => simp [intOf]; omega
        · have HA := Lib.hid (acc_yes (f := (fun k => bitB s k || bitB t k)) (k := k) (by simp [hb, hc]))
          generalize acc (fun k => bitB s k || bitB t k) k = a at *
          go_wp2_with (go_at_call 35; refine (bit_any _ _ (by omega) (by omega) _).mono ?_; rintro e w1 ⟨rfl, rfl⟩)
          go_region
          all_goals go_wp2
          all_goals
            go_roundw
            case rel => exact ⟨k + 1, n + 1, by omega, by go_num, by rw [HA.out]⟩
            case measure => simp [intOf]; omega
      · obtain rfl : k = 16 := by omega
        go_wp2_with fail
        have hl := HL.out
        refine bodyPost_ret (v := .agg #[.int .i64 lw, .int .u16 (acc (fun k => bitB s k || bitB t k) 16)]) (by subst hl; simp [results, Try.results24, go_sem]) rfl ⟨rfl, ?_⟩
        exact below_drewN (((((Below.refl _ _).alloc (Nat.le_refl _) _).alloc (by simp) _).alloc (by simp; omega) _).alloc (by simp; omega) _) _
  · have HL := Lib.hid (show mxI l m = l by unfold mxI; rw [if_neg h])
    generalize mxI l m = lw at *
    go_enter Try.func24, Try.ntmps24
    go_wp2_with fail
    go_loopw [6] (fun i wr => ∃ k n : Nat, k ≤ 16 ∧ i = .int .i64 k ∧ wr = midW w l s m t l (acc (fun k => bitB s k || bitB t k) k) n) (fun i _ => 16 - (intOf i).toNat)
    case atStart => exact ⟨0, 0, by omega, rfl, rfl⟩
    case round =>
      obtain ⟨k, n, hk, rfl, rfl⟩ := hrel
      by_cases hlt : k < 16
      · cases hb : bitB s k <;> cases hc : bitB t k
        · have HA := Lib.hid (acc_no (f := (fun k => bitB s k || bitB t k)) (k := k) (by simp [hb, hc]))
          generalize acc (fun k => bitB s k || bitB t k) k = a at *
          go_wp2_with (go_at_call 35; refine (bit_any _ _ (by omega) (by omega) _).mono ?_; rintro e w1 ⟨rfl, rfl⟩)
          go_roundw
          case rel => exact ⟨k + 1, n, by omega, by go_num, by rw [HA.out]⟩
          case measure => simp [intOf]; omega
        · have HA := Lib.hid (acc_yes (f := (fun k => bitB s k || bitB t k)) (k := k) (by simp [hb, hc]))
          generalize acc (fun k => bitB s k || bitB t k) k = a at *
          go_wp2_with (go_at_call 35; refine (bit_any _ _ (by omega) (by omega) _).mono ?_; rintro e w1 ⟨rfl, rfl⟩)
          go_region
          all_goals go_wp2
          all_goals
            go_roundw
            case rel => exact ⟨k + 1, n + 1, by omega, by go_num, by rw [HA.out]⟩
            case measure => simp [intOf]; omega
        · have HA := Lib.hid (acc_yes (f := (fun k => bitB s k || bitB t k)) (k := k) (by simp [hb, hc]))
          generalize acc (fun k => bitB s k || bitB t k) k = a at *
          go_wp2_with (go_at_call 35; refine (bit_any _ _ (by omega) (by omega) _).mono ?_; rintro e w1 ⟨rfl, rfl⟩)
          go_region
          all_goals go_wp2
          all_goals
            go_roundw
            case rel => exact ⟨k + 1, n + 1, by omega, by go_num, by rw [HA.out]⟩
            case measure => simp [intOf]; omega
        · have HA := Lib.hid (acc_yes (f := (fun k => bitB s k || bitB t k)) (k := k) (by simp [hb, hc]))
          generalize acc (fun k => bitB s k || bitB t k) k = a at *
          go_wp2_with (go_at_call 35; refine (bit_any _ _ (by omega) (by omega) _).mono ?_; rintro e w1 ⟨rfl, rfl⟩)
          go_region
          all_goals go_wp2
          all_goals
            go_roundw
            case rel => exact ⟨k + 1, n + 1, by omega, by go_num, by rw [HA.out]⟩
            case measure => simp [intOf]; omega
      · obtain rfl : k = 16 := by omega
        go_wp2_with fail
        have hl := HL.out
        refine bodyPost_ret (v := .agg #[.int .i64 lw, .int .u16 (acc (fun k => bitB s k || bitB t k) 16)]) (by subst hl; simp [results, Try.results24, go_sem]) rfl ⟨rfl, ?_⟩
        exact below_drewN (((((Below.refl _ _).alloc (Nat.le_refl _) _).alloc (by simp) _).alloc (by simp; omega) _).alloc (by simp; omega) _) _

set_option maxHeartbeats 1000000 in
theorem refoff_is (l s m t : Int) (w : World) :
    Calls Try.prog 33 #[.agg #[.int .i64 l, .int .u16 s], .agg #[.int .i64 m, .int .u16 t]] w fun e w' => e = .returned (.agg #[.int .i64 (offL l m), .int .u16 (acc (fun k => bitB s k && !bitB t k) 16)]) ∧ Below w.heap.size w w' := by
  by_cases h : m < l
  · have HL := Lib.hid (show offL l m = l by unfold offL; rw [if_pos h])
    generalize offL l m = lw at *
    go_enter Try.func33, Try.ntmps33
    go_wp2_with fail
    go_loopw [6] (fun i wr => ∃ k n : Nat, k ≤ 16 ∧ i = .int .i64 k ∧ wr = midW w l s m t l (acc (fun k => bitB s k && !bitB t k) k) n) (fun i _ => 16 - (intOf i).toNat)
    case atStart => exact ⟨0, 0, by omega, rfl, rfl⟩
    case round =>
      obtain ⟨k, n, hk, rfl, rfl⟩ := hrel
      by_cases hlt : k < 16
      · cases hb : bitB s k <;> cases hc : bitB t k
        · have HA := Lib.hid (acc_no (f := (fun k => bitB s k && !bitB t k)) (k := k) (by simp [hb, hc]))
          generalize acc (fun k => bitB s k && !bitB t k) k = a at *
          go_wp2_with (go_at_call 35; refine (bit_any _ _ (by omega) (by omega) _).mono ?_; rintro e w1 ⟨rfl, rfl⟩)
          go_roundw
          case rel => exact ⟨k + 1, n, by omega, by go_num, by rw [HA.out]⟩
          case measure => simp [intOf]; omega
        · have HA := Lib.hid (acc_no (f := (fun k => bitB s k && !bitB t k)) (k := k) (by simp [hb, hc]))
          generalize acc (fun k => bitB s k && !bitB t k) k = a at *
          go_wp2_with (go_at_call 35; refine (bit_any _ _ (by omega) (by omega) _).mono ?_; rintro e w1 ⟨rfl, rfl⟩)
          go_roundw
          case rel => exact ⟨k + 1, n, by omega, by go_num, by rw [HA.out]⟩
          case measure => simp [intOf]; omega
        · have HA := Lib.hid (acc_yes (f := (fun k => bitB s k && !bitB t k)) (k := k) (by simp [hb, hc]))
          generalize acc (fun k => bitB s k && !bitB t k) k = a at *
          go_wp2_with (go_at_call 35; refine (bit_any _ _ (by omega) (by omega) _).mono ?_; rintro e w1 ⟨rfl, rfl⟩)
          go_region
          all_goals go_wp2
          all_goals
            go_roundw
            case rel => exact ⟨k + 1, n + 1, by omega, by go_num, by rw [HA.out]⟩
            case measure => simp [intOf]; omega
        · have HA := Lib.hid (acc_no (f := (fun k => bitB s k && !bitB t k)) (k := k) (by simp [hb, hc]))
          generalize acc (fun k => bitB s k && !bitB t k) k = a at *
          go_wp2_with (go_at_call 35; refine (bit_any _ _ (by omega) (by omega) _).mono ?_; rintro e w1 ⟨rfl, rfl⟩)
          go_roundw
          case rel => exact ⟨k + 1, n, by omega, by go_num, by rw [HA.out]⟩
          case measure => simp [intOf]; omega
      · obtain rfl : k = 16 := by omega
        go_wp2_with fail
        have hl := HL.out
        refine bodyPost_ret (v := .agg #[.int .i64 lw, .int .u16 (acc (fun k => bitB s k && !bitB t k) 16)]) (by subst hl; simp [results, Try.results33, go_sem]) rfl ⟨rfl, ?_⟩
        exact below_drewN (((((Below.refl _ _).alloc (Nat.le_refl _) _).alloc (by simp) _).alloc (by simp; omega) _).alloc (by simp; omega) _) _
  · have HL := Lib.hid (show offL l m = 0 by unfold offL; rw [if_neg h])
    generalize offL l m = lw at *
    go_enter Try.func33, Try.ntmps33
    go_wp2_with fail
    go_loopw [6] (fun i wr => ∃ k n : Nat, k ≤ 16 ∧ i = .int .i64 k ∧ wr = midW w l s m t 0 (acc (fun k => bitB s k && !bitB t k) k) n) (fun i _ => 16 - (intOf i).toNat)
    case atStart => exact ⟨0, 0, by omega, rfl, rfl⟩
    case round =>
      obtain ⟨k, n, hk, rfl, rfl⟩ := hrel
      by_cases hlt : k < 16
      · cases hb : bitB s k <;> cases hc : bitB t k
        · have HA := Lib.hid (acc_no (f := (fun k => bitB s k && !bitB t k)) (k := k) (by simp [hb, hc]))
          generalize acc (fun k => bitB s k && !bitB t k) k = a at *
          go_wp2_with (go_at_call 35; refine (bit_any _ _ (by omega) (by omega) _).mono ?_; rintro e w1 ⟨rfl, rfl⟩)
          go_roundw
          case rel => exact ⟨k + 1, n, by omega, by go_num, by rw [HA.out]⟩
          case measure => simp [intOf]; omega
        · have HA := Lib.hid (acc_no (f := (fun k => bitB s k && !bitB t k)) (k := k) (by simp [hb, hc]))
          generalize acc (fun k => bitB s k && !bitB t k) k = a at *
          go_wp2_with (go_at_call 35; refine (bit_any _ _ (by omega) (by omega) _).mono ?_; rintro e w1 ⟨rfl, rfl⟩)
          go_roundw
          case rel => exact ⟨k + 1, n, by omega, by go_num, by rw [HA.out]⟩
          case measure => simp [intOf]; omega
        · have HA := Lib.hid (acc_yes (f := (fun k => bitB s k && !bitB t k)) (k := k) (by simp [hb, hc]))
          generalize acc (fun k => bitB s k && !bitB t k) k = a at *
          go_wp2_with (go_at_call 35; refine (bit_any _ _ (by omega) (by omega) _).mono ?_; rintro e w1 ⟨rfl, rfl⟩)
          go_region
          all_goals go_wp2
          all_goals
            go_roundw
            case rel => exact ⟨k + 1, n + 1, by omega, by go_num, by rw [HA.out]⟩
            case measure => simp [intOf]; omega
        · have HA := Lib.hid (acc_no (f := (fun k => bitB s k && !bitB t k)) (k := k) (by simp [hb, hc]))
          generalize acc (fun k => bitB s k && !bitB t k) k = a at *
          go_wp2_with (go_at_call 35; refine (bit_any _ _ (by omega) (by omega) _).mono ?_; rintro e w1 ⟨rfl, rfl⟩)
          go_roundw
          case rel => exact ⟨k + 1, n, by omega, by go_num, by rw [HA.out]⟩
          case measure => simp [intOf]; omega
      · obtain rfl : k = 16 := by omega
        go_wp2_with fail
        have hl := HL.out
        refine bodyPost_ret (v := .agg #[.int .i64 lw, .int .u16 (acc (fun k => bitB s k && !bitB t k) 16)]) (by subst hl; simp [results, Try.results33, go_sem]) rfl ⟨rfl, ?_⟩
        exact below_drewN (((((Below.refl _ _).alloc (Nat.le_refl _) _).alloc (by simp) _).alloc (by simp; omega) _).alloc (by simp; omega) _) _

set_option maxHeartbeats 1000000 in
theorem refleq_is (l s m t : Int) (hs : SetN s) (ht : SetN t) (r : Bool) (hr : leqB l s m t = r) (w : World) :
    Calls Try.prog 23 #[.agg #[.int .i64 l, .int .u16 s], .agg #[.int .i64 m, .int .u16 t]] w fun e w' => e = .returned (.bool r) ∧ Below w.heap.size w w' := by
  have HS := Lib.hid hs
  have HT := Lib.hid ht
  have HR := Lib.hid hr
  clear hs ht hr
  go_enter Try.func23, Try.ntmps23
  go_wp2_with fail
  go_loopw [5] (fun i wr => ∃ k : Nat, k ≤ 16 ∧ i = .int .i64 k ∧ Hid (noneMissing s t k) ∧ wr = (w.alloc (.cells #[.int .i64 l, .int .u16 s] 26)).alloc (.cells #[.int .i64 m, .int .u16 t] 26)) (fun i _ => 16 - (intOf i).toNat)
  case atStart => exact ⟨0, by omega, rfl, fun i hi => absurd hi (by omega), rfl⟩
  case round =>
    obtain ⟨k, hk, rfl, HM, rfl⟩ := hrel
    by_cases hlt : k < 16
    · cases hb : bitB s k <;> cases hc : bitB t k
      · have HN : Hid (noneMissing s t (k + 1)) := fun i hi => if e : i = k then by rw [e, hb]; rfl else HM.out i (by omega)
        go_wp2_with (go_at_call 35; refine (bit_any _ _ (by omega) (by omega) _).mono ?_; rintro e w1 ⟨rfl, rfl⟩)
        go_roundw
        case rel => exact ⟨k + 1, by omega, by go_num, HN, trivial⟩
        case measure => simp [intOf]; omega
      · have HN : Hid (noneMissing s t (k + 1)) := fun i hi => if e : i = k then by rw [e, hb]; rfl else HM.out i (by omega)
        go_wp2_with (go_at_call 35; refine (bit_any _ _ (by omega) (by omega) _).mono ?_; rintro e w1 ⟨rfl, rfl⟩)
        go_roundw
        case rel => exact ⟨k + 1, by omega, by go_num, HN, trivial⟩
        case measure => simp [intOf]; omega
      · have HF : Hid (r = false) := by rw [← HR.out]; exact leq_bits_not HS.out HT.out k hlt (by rw [hb, hc]; rfl)
        go_wp2_with (go_at_call 35; refine (bit_any _ _ (by omega) (by omega) _).mono ?_; rintro e w1 ⟨rfl, rfl⟩)
        go_ret
        exact ⟨ret_bool HF.out.symm, ((Below.refl _ _).alloc (Nat.le_refl _) _).alloc (by simp) _⟩
      · have HN : Hid (noneMissing s t (k + 1)) := fun i hi => if e : i = k then by rw [e, hb, hc]; rfl else HM.out i (by omega)
        go_wp2_with (go_at_call 35; refine (bit_any _ _ (by omega) (by omega) _).mono ?_; rintro e w1 ⟨rfl, rfl⟩)
        go_roundw
        case rel => exact ⟨k + 1, by omega, by go_num, HN, trivial⟩
        case measure => simp [intOf]; omega
    · obtain rfl : k = 16 := by omega
      have HF : Hid (r = decide (l ≤ m)) := by rw [← HR.out]; exact leq_bits HS.out HT.out HM.out
      go_wp2_with fail
      go_ret
      exact ⟨ret_bool HF.out.symm, ((Below.refl _ _).alloc (Nat.le_refl _) _).alloc (by simp) _⟩

end Go.Proofs.Ytnehcaefafdiaaa
