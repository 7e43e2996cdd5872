/-
  What the document's Int and Text (package lockageref06) answer. No conditions but a number's range, and a text's length.
-/
import Derived.Test.YthmjeibanofliaaDoorCodQ
import Derived.Test.YthmjeibanofliaaDoorSecG
import Derived.Test.YthmjeibanofliaaDoorPhaseB
import Derived.Test.YthmjeibanofliaaDoorRegion
import Derived.Deep.DeepCutAuto
namespace Go.Proofs.YthmjeibanofliaaDoor
open Go.RowKit

theorem noPanic_normal {Q : Exit → Act → World → Prop} {a : Act} {w : World} (h : Q .normal a w) : NoPanic Q .normal a w := h
theorem nums_one (d : UInt8) : strOfNums [(d.toNat : Int)] = ofL [d] := by
  apply bl_inj
  rw [bl_ofL]
  simp [strOfNums, bl]
theorem conv_one {w : World} {B : Nat} (d : UInt8) (h : w.heap[B]? = some (.cells #[.int .u8 (d.toNat : Int)] 5 (0, 0))) : (convert 50 9 (.slice (some ⟨B, 0, none⟩) 1 1)).run Tryd.prog w = .ok (.string (ofL [d])) w := by
  rw [← nums_one]
  refine run_convert_bytes_arg _ 50 5 Tryd.underlying50 Tryd.underlying5 _ 0 1 1 [(d.toNat : Int)] (by simp) (fun i hi => ?_) 9 Tryd.underlying9
  have hi0 : i = 0 := by simpa using hi
  subst hi0
  simp [World.cell?, h]
/-- One digit, as a byte. -/
def digB (n : Nat) : UInt8 := UInt8.ofNat (48 + n % 10)
theorem digB_val (n : Nat) : ((digB n).toNat : Int) = 48 + ((n % 10 : Nat) : Int) := by
  unfold digB
  rw [dig_val (by omega)]
  omega
theorem digX_len {n : Nat} (h : n < 18446744073709551616) : (ofL (digN n)).size ≤ 20 := by
  have := digN_len n 20 (by omega) (by omega)
  rw [← bl_len, bl_ofL]
  exact this

set_option maxHeartbeats 1000000 in
set_option maxRecDepth 100000 in
theorem count_low (n : Nat) (h : n < 10) (w : World) : Calls Tryd.prog 19 #[.int .u64 n] w fun e w' => e = .returned (.string (ofL (digN n))) ∧ Below w.heap.size w w' := by
  have HE := Lib.hid (show ofL (digN n) = ofL [digB n] by rw [digN_low h]; unfold digB; rw [Nat.mod_eq_of_lt h])
  have hd : ((digB n).toNat : Int) = 48 + (n : Int) := by rw [digB_val, Nat.mod_eq_of_lt h]
  have HC := Lib.hid (conv_one (w := w.alloc (.cells #[.int .u8 ((digB n).toNat : Int)] 5)) (digB n) (made_at w _))
  rw [hd] at HC
  clear hd
  have hcv := HC.out
  have hlt : (n : Int) < 10 := by omega
  go_enter Tryd.func19, Tryd.ntmps19
  go_wp2_with fail
  go_ret
  exact ⟨by rw [HE.out]; rfl, (Below.refl _ _).alloc (Nat.le_refl _) _⟩
set_option maxHeartbeats 1000000 in
set_option maxRecDepth 100000 in
theorem count_is (n : Nat) : n < 18446744073709551616 → ∀ w : World, Calls Tryd.prog 19 #[.int .u64 n] w fun e w' => e = .returned (.string (ofL (digN n))) ∧ Below w.heap.size w w' := by
  induction n using Nat.strongRecOn with
  | ind n ih =>
    intro hn w
    by_cases h : n < 10
    · exact count_low n h w
    have IH := Lib.hid (fun W : World => ih (n / 10) (by omega) (by omega) W)
    have HE := Lib.hid (show ofL (digN n) = ofL (digN (n / 10)) ++ ofL [digB n] by
      apply bl_inj
      rw [bl_append, bl_ofL, bl_ofL, bl_ofL, digN_more h]
      rfl)
    have HS := Lib.hid (digX_len (n := n / 10) (by omega))
    have hlt : ¬ (n : Int) < 10 := by omega
    have hdv : Int.tdiv (n : Int) 10 = ((n / 10 : Nat) : Int) := by rw [Int.tdiv_eq_ediv_of_nonneg (by omega)]; omega
    have hmd : Int.tmod (n : Int) 10 = ((n % 10 : Nat) : Int) := by rw [Int.tmod_eq_emod_of_nonneg (by omega)]; omega
    have hm10 : n % 10 < 10 := by omega
    have hd10 : n / 10 < 1844674407370955162 := by omega
    have hdg := digB_val n
    clear ih
    go_enter Tryd.func19, Tryd.ntmps19
    go_upto_region 3 with fail
    refine wp_region_noPanic ?_
    refine region_begins 11 (by kernel_rfl) rfl ?_
    refine any_take 0 10 (v := .int .u64 n) rfl rfl (by kernel_rfl) (by kernel_rfl) (by kernel_rfl) noPanic_any (by rfl) (fun _ => by go_simp) ?_
    simp only [Act.put, List.setIfInBounds_toArray, List.set_cons_zero, List.set_cons_succ]
    refine any_take 1 11 (v := .int .u64 ((n / 10 : Nat) : Int)) rfl rfl (by kernel_rfl) (by kernel_rfl) (by kernel_rfl) noPanic_any (by rfl) (fun _ => by go_simp; rw [IntKind.wrap_u64]; omega) ?_
    simp only [Act.put, List.setIfInBounds_toArray, List.set_cons_zero, List.set_cons_succ]
    refine any_take 3 13 (v := .int .u64 n) rfl rfl (by kernel_rfl) (by kernel_rfl) (by kernel_rfl) noPanic_any (by rfl) (fun _ => by go_simp) ?_
    simp only [Act.put, List.setIfInBounds_toArray, List.set_cons_zero, List.set_cons_succ]
    refine any_take 4 14 (v := .int .u64 ((n % 10 : Nat) : Int)) rfl rfl (by kernel_rfl) (by kernel_rfl) (by kernel_rfl) noPanic_any (by rfl) (fun _ => by go_simp) ?_
    simp only [Act.put, List.setIfInBounds_toArray, List.set_cons_zero, List.set_cons_succ]
    refine any_take 5 15 (v := .int .u64 (48 + ((n % 10 : Nat) : Int))) rfl rfl (by kernel_rfl) (by kernel_rfl) (by kernel_rfl) noPanic_any (by rfl) (fun _ => by go_simp; rw [IntKind.wrap_u64]; omega) ?_
    simp only [Act.put, List.setIfInBounds_toArray, List.set_cons_zero, List.set_cons_succ]
    refine any_take 6 16 (v := .int .u8 (48 + ((n % 10 : Nat) : Int))) rfl rfl (by kernel_rfl) (by kernel_rfl) (by kernel_rfl) noPanic_any (by rfl) (fun _ => by go_simp; rw [IntKind.wrap_u8]; omega) ?_
    simp only [Act.put, List.setIfInBounds_toArray, List.set_cons_zero, List.set_cons_succ]
    refine two_ways (S := fun W => Below w.heap.size w W) (c := 2) (m := 7) (v := 8) (dc := 12) (dm := 17) (dv := 18) (vc := .string (ofL (digN (n / 10)))) (z := .string (ofL [digB n])) (mk := fun B => .slice (some ⟨B, 0, none⟩) 1 1) (o := .cells #[.int .u8 (48 + ((n % 10 : Nat) : Int))] 5) (n := 2)
      (by kernel_rfl) (by kernel_rfl) (by kernel_rfl) (by kernel_rfl) (by kernel_rfl) (by decide) (by decide) (by decide) (by decide) (Below.refl _ _).drew (fun _ _ h k => below_step h k) ?hc1 ?hc2 ?hc3 ?hm1 ?hm2 ?hv1 ?hv2 ?rest
    case hc1 =>
      intros
      intro K wx hSx hKx
      have HK := Lib.hid hKx
      clear hKx
      (try simp only [Act.put, List.setIfInBounds_toArray, List.set_cons_zero, List.set_cons_succ])
      (try simp only [Act.put, List.setIfInBounds_toArray, List.set_cons_zero, List.set_cons_succ] at HK)
      refine wpOp_step rfl (fun K' hK' => ?_)
      have HK' := Lib.hid hK'
      clear hK'
      go_simp
      refine (IH.out _).mono ?_
      intro e wy hh
      have he := hh.1
      have HB := Lib.hid hh.2
      clear hh
      subst he
      exact HK'.out _ _ (HK.out _ HB.out)
    case hc2 =>
      intros
      intro K wx hSx hKx
      have HK := Lib.hid hKx
      clear hKx
      (try simp only [Act.put, List.setIfInBounds_toArray, List.set_cons_zero, List.set_cons_succ])
      (try simp only [Act.put, List.setIfInBounds_toArray, List.set_cons_zero, List.set_cons_succ] at HK)
      refine wpOp_step rfl (fun K' hK' => ?_)
      have HK' := Lib.hid hK'
      clear hK'
      go_simp
      refine (IH.out _).mono ?_
      intro e wy hh
      have he := hh.1
      have HB := Lib.hid hh.2
      clear hh
      subst he
      exact HK'.out _ _ (HK.out _ HB.out)
    case hc3 =>
      intros
      intro K wx hSx hKx
      have HK := Lib.hid hKx
      clear hKx
      (try simp only [Act.put, List.setIfInBounds_toArray, List.set_cons_zero, List.set_cons_succ])
      (try simp only [Act.put, List.setIfInBounds_toArray, List.set_cons_zero, List.set_cons_succ] at HK)
      refine wpOp_step rfl (fun K' hK' => ?_)
      have HK' := Lib.hid hK'
      clear hK'
      go_simp
      refine (IH.out _).mono ?_
      intro e wy hh
      have he := hh.1
      have HB := Lib.hid hh.2
      clear hh
      subst he
      exact HK'.out _ _ (HK.out _ HB.out)
    case hm1 =>
      intros
      intro K wx hKx
      have HK := Lib.hid hKx
      clear hKx
      (try simp only [Act.put, List.setIfInBounds_toArray, List.set_cons_zero, List.set_cons_succ])
      (try simp only [Act.put, List.setIfInBounds_toArray, List.set_cons_zero, List.set_cons_succ] at HK)
      refine wpOp_step rfl (fun K' hK' => ?_)
      have HK' := Lib.hid hK'
      clear hK'
      go_simp
      exact HK'.out _ _ HK.out
    case hm2 =>
      intros
      intro K wx hKx
      have HK := Lib.hid hKx
      clear hKx
      (try simp only [Act.put, List.setIfInBounds_toArray, List.set_cons_zero, List.set_cons_succ])
      (try simp only [Act.put, List.setIfInBounds_toArray, List.set_cons_zero, List.set_cons_succ] at HK)
      refine wpOp_step rfl (fun K' hK' => ?_)
      have HK' := Lib.hid hK'
      clear hK'
      go_simp
      exact HK'.out _ _ HK.out
    case hv1 =>
      intros
      intro K wx hBx hKx
      have HK := Lib.hid hKx
      clear hKx
      (try simp only [Act.put, List.setIfInBounds_toArray, List.set_cons_zero, List.set_cons_succ])
      (try simp only [Act.put, List.setIfInBounds_toArray, List.set_cons_zero, List.set_cons_succ] at HK)
      refine wpOp_step rfl (fun K' hK' => ?_)
      have HK' := Lib.hid hK'
      clear hK'
      have h1 := conv_one (digB n) (by rw [digB_val]; exact hBx)
      go_simp
      exact HK'.out _ _ HK.out
    case hv2 =>
      intros
      intro K wx hBx hKx
      have HK := Lib.hid hKx
      clear hKx
      (try simp only [Act.put, List.setIfInBounds_toArray, List.set_cons_zero, List.set_cons_succ])
      (try simp only [Act.put, List.setIfInBounds_toArray, List.set_cons_zero, List.set_cons_succ] at HK)
      refine wpOp_step rfl (fun K' hK' => ?_)
      have HK' := Lib.hid hK'
      clear hK'
      have h1 := conv_one (digB n) (by rw [digB_val]; exact hBx)
      go_simp
      exact HK'.out _ _ HK.out
    case rest =>
    intro B w' hS
    have HB := Lib.hid hS
    clear hS
    simp only [Act.put, List.setIfInBounds_toArray, List.set_cons_zero, List.set_cons_succ]
    have hsz := HS.out
    have hs1 : (ofL [digB n]).size = 1 := rfl
    have hcat : ¬ 9223372036854775807 < (ofL (digN (n / 10))).size + 1 := by omega
    refine one_ready (i := 9) (by kernel_rfl) (wpOp_step rfl (fun KK hKK => ?_))
    have HKK := Lib.hid hKK
    clear hKK
    go_simp
    refine HKK.out _ _ ?_
    clear HKK KK
    (try simp only [Act.put, List.setIfInBounds_toArray, List.set_cons_zero, List.set_cons_succ])
    refine one_ready (i := 10) (by kernel_rfl) (wpOp_step rfl (fun KK hKK => ?_))
    have HKK := Lib.hid hKK
    clear hKK
    go_simp
    refine HKK.out _ _ ?_
    clear HKK KK
    refine ⟨by kernel_rfl, ?_⟩
    refine noPanic_normal ?_
    go_wp2_with fail
    go_ret
    exact ⟨by rw [HE.out]; rfl, HB.out⟩
end Go.Proofs.YthmjeibanofliaaDoor
