/-
  The statement ManifestOrder, walked over what it asks of the program's manifests. Conditions: what the library's variable errors.errorType holds; awake.
-/
import Derived.Test.YtcfnmjhelhdobaaGreatDoorManW
import Derived.Test.YtcfnmjhelhdobaaGreatDoorManU
import Derived.BigQuiet
import Derived.Deep.QuietTactic
namespace Go.Proofs.YtcfnmjhelhdobaaGreatDoor
open Go.RowKit

theorem ordPi_right {r t : Nat} (hr : r < 6) (ht : t < 9) : RightPi (ordPi r (1 + t)) := parse_right (order_same hr ht).1
theorem cut_at (c : Int) {n : Nat} (h : 0 < n) (h2 : n ≤ 1000000) : ∃ k : Nat, wrap64 ((IntKind.u64.wrap c).tmod (n : Int)) = k ∧ k < n := by
  have h0 : 0 ≤ IntKind.u64.wrap c := by rw [IntKind.wrap_u64]; omega
  rw [Int.tmod_eq_emod_of_nonneg h0]
  generalize IntKind.u64.wrap c = z at h0
  have h3 := Int.emod_nonneg z (show (n : Int) ≠ 0 by omega)
  have h4 := Int.emod_lt_of_pos z (show (0 : Int) < n by omega)
  refine ⟨(z % n).toNat, ?_, by omega⟩
  unfold wrap64
  omega

theorem nums_byte (n : Nat) : strOfNums [48 + (n : Int)] = ofL [UInt8.ofNat (48 + n)] := by
  apply bl_inj
  rw [bl_ofL]
  have : (48 + (n : Int)).toNat = 48 + n := by omega
  simp [strOfNums, bl, this]
theorem nums_byte1 (n : Nat) : strOfNums [48 + (1 + (n : Int))] = ofL [UInt8.ofNat (49 + n)] := by
  have h2 := nums_byte (1 + n)
  rw [show ((1 + n : Nat) : Int) = 1 + (n : Int) by omega, show 48 + (1 + n) = 49 + n by omega] at h2
  exact h2
abbrev oa1 : ByteArray := ⟨#[112, 105, 112, 101, 32, 112, 10, 116, 97, 115, 107, 32, 97, 10, 116, 97, 115, 107, 32, 98, 32, 97, 102, 116, 101, 114, 32, 97, 32, 114, 101, 116, 114, 121, 32]⟩
abbrev oa2 : ByteArray := ⟨#[32, 116, 105, 109, 101, 32]⟩
abbrev ob1 : ByteArray := ⟨#[112, 105, 112, 101, 32, 112, 10, 116, 97, 115, 107, 32, 97, 10, 116, 97, 115, 107, 32, 98, 32, 116, 105, 109, 101, 32]⟩
abbrev ob2 : ByteArray := ⟨#[32, 114, 101, 116, 114, 121, 32]⟩
abbrev ob3 : ByteArray := ⟨#[32, 97, 102, 116, 101, 114, 32, 97]⟩
theorem ordA_is (r t : UInt8) : oa1 ++ ofL [r] ++ oa2 ++ ofL [t] = ordA r t := by
  apply bl_inj
  rw [bl_append, bl_append, bl_append, bl_ofL, bl_ofL, List.append_assoc, List.append_assoc]
  rfl
theorem ordB_is (r t : UInt8) : ob1 ++ ofL [t] ++ ob2 ++ ofL [r] ++ ob3 = ordB r t := by
  apply bl_inj
  rw [bl_append, bl_append, bl_append, bl_append, bl_ofL, bl_ofL, List.append_assoc, List.append_assoc, List.append_assoc]
  rfl
section
variable {w : World}
set_option maxHeartbeats 2000000 in
set_option maxRecDepth 100000 in
theorem order_true (C : ManOk) (HAW : ∀ w : World, VarL w → Calls Tryz.prog 7 #[] w fun e w' => e = .returned (.bool true) ∧ Below w.heap.size w w') (a0 a1 : Int) (hV : VarL w) :
    Calls Tryz.prog 6 #[.int .i64 a0, .int .i64 a1] w fun e w' => e = .returned (.bool true) ∧ Below w.heap.size w w' := by
  have HV := Lib.hid hV
  have HW := Lib.hid HAW
  clear hV HAW
  go_enter Tryz.func6, Tryz.ntmps6
  go_upto_region 2 with fail
  obtain ⟨r, er, hr⟩ := cut_at a0 (n := 6) (by omega) (by omega)
  obtain ⟨t, et, ht⟩ := cut_at a1 (n := 9) (by omega) (by omega)
  have et2 : wrap64 (1 + (t : Int)) = 1 + (t : Int) := by unfold wrap64; omega
  simp only [Int.cast_ofNat_Int] at er et
  rw [er, et, et2]
  clear er et et2
  obtain ⟨SR, hSR⟩ : ∃ SR, SR = strOfNums [48 + (r : Int)] := ⟨_, rfl⟩
  obtain ⟨ST, hST⟩ : ∃ ST, ST = strOfNums [48 + (1 + (t : Int))] := ⟨_, rfl⟩
  have HCV := Lib.hid (fun (W : World) (g : Nat) (h : g = W.heap.size) => conv_one W (48 + (r : Int)) g h)
  have HCW := Lib.hid (fun (W : World) (g : Nat) (h : g = W.heap.size) => conv_one W (48 + (1 + (t : Int))) g h)
  rw [← hSR] at HCV
  rw [← hST] at HCW
  have HAB := Lib.hid (show oa1 ++ SR ++ oa2 ++ ST = ordA (UInt8.ofNat (48 + r)) (UInt8.ofNat (49 + t)) ∧ ob1 ++ ST ++ ob2 ++ SR ++ ob3 = ordB (UInt8.ofNat (48 + r)) (UInt8.ofNat (49 + t)) by
    rw [hSR, hST, nums_byte, nums_byte1]
    exact ⟨ordA_is _ _, ordB_is _ _⟩)
  have HOS := Lib.hid (order_same hr ht)
  have HRP := Lib.hid (ordPi_right hr ht)
  have zr : SR.size = 1 := by rw [hSR]; rfl
  have zt : ST.size = 1 := by rw [hST]; rfl
  clear hSR hST
  have q1 : ¬ (9223372036854775807 : Nat) < oa1.size + SR.size := by rw [zr]; decide
  have q2 : ¬ (9223372036854775807 : Nat) < (oa1 ++ SR).size + oa2.size := by rw [ByteArray.size_append, zr]; decide
  have q3 : ¬ (9223372036854775807 : Nat) < (oa1 ++ SR ++ oa2).size + ST.size := by rw [ByteArray.size_append, ByteArray.size_append, zr, zt]; decide
  have c1 := HCV.out w _ rfl
  have b1 := (Below.refl w.heap.size w).alloc (Nat.le_refl _) (.cells #[.int .u8 (48 + (r : Int))] 5)
  have c2 := HCW.out (w.alloc (.cells #[.int .u8 (48 + (r : Int))] 5)) (w.heap.size + 1) (by simp)
  have b2 := b1.alloc b1.size (.cells #[.int .u8 (48 + (1 + (t : Int)))] 5)
  have HV1 := Lib.hid (HV.out.later b2)
  have HB1 := Lib.hid b2
  have HPA := Lib.hid (C.parse (oa1 ++ SR ++ oa2 ++ ST) HV1.out (by rw [ByteArray.size_append, ByteArray.size_append, ByteArray.size_append, zr, zt]; decide))
  rw [HAB.out.1, HOS.out.1, ← HAB.out.1] at HPA
  clear b1 b2
  go_wp2_with fail
  refine HPA.out.mono ?_
  rintro e w2 ⟨hb2, A, c, rfl, hA⟩
  have hb2 := hb2.alloc hb2.size (.cells #[.string (ordPi r (1 + t)).name, .slice A (ordPi r (1 + t)).tasks.length c] 25)
  have HA2 := Lib.hid (hA.later ((Below.refl w2.heap.size w2).alloc (Nat.le_refl _) (.cells #[.string (ordPi r (1 + t)).name, .slice A (ordPi r (1 + t)).tasks.length c] 25)))
  have HZ2 := Lib.hid (made_at w2 (.cells #[.string (ordPi r (1 + t)).name, .slice A (ordPi r (1 + t)).tasks.length c] 25))
  have HB2 := Lib.hid (below_step HB1.out hb2)
  have HV2 := Lib.hid (HV1.out.later hb2)
  clear hb2 hA c1 c2 q1 q2 q3
  have q1 : ¬ (9223372036854775807 : Nat) < ob1.size + ST.size := by rw [zt]; decide
  have q2 : ¬ (9223372036854775807 : Nat) < (ob1 ++ ST).size + ob2.size := by rw [ByteArray.size_append, zt]; decide
  have q3 : ¬ (9223372036854775807 : Nat) < (ob1 ++ ST ++ ob2).size + SR.size := by rw [ByteArray.size_append, ByteArray.size_append, zr, zt]; decide
  have q4 : ¬ (9223372036854775807 : Nat) < (ob1 ++ ST ++ ob2 ++ SR).size + ob3.size := by rw [ByteArray.size_append, ByteArray.size_append, ByteArray.size_append, zr, zt]; decide
  unfold pipV
  go_upto_region 3 with fail
  generalize hW3 : (w2.alloc (.cells #[.string (ordPi r (1 + t)).name, .slice A (ordPi r (1 + t)).tasks.length c] 25)) = w3 at *
  have hblk : w2.heap.size < w3.heap.size := by rw [← hW3, World.size_alloc]; omega
  clear hW3
  have c1 := HCW.out w3 _ rfl
  have b1 := (Below.refl w3.heap.size w3).alloc (Nat.le_refl _) (.cells #[.int .u8 (48 + (1 + (t : Int)))] 5)
  have c2 := HCV.out (w3.alloc (.cells #[.int .u8 (48 + (1 + (t : Int)))] 5)) (w3.heap.size + 1) (by simp)
  have b2 := b1.alloc b1.size (.cells #[.int .u8 (48 + (r : Int))] 5)
  have HV3 := Lib.hid (HV2.out.later b2)
  have HA3 := Lib.hid (HA2.out.later b2)
  have HZ3 := Lib.hid (later_at b2 HZ2.out)
  have HB3 := Lib.hid (below_step HB2.out b2)
  have HPB := Lib.hid (C.parse (ob1 ++ ST ++ ob2 ++ SR ++ ob3) HV3.out (by rw [ByteArray.size_append, ByteArray.size_append, ByteArray.size_append, ByteArray.size_append, zr, zt]; decide))
  rw [HAB.out.2, HOS.out.2, ← HAB.out.2] at HPB
  clear b1 b2
  go_wp2_with fail
  refine HPB.out.mono ?_
  rintro e w4 ⟨hb4, B, d, rfl, hB⟩
  clear c1 c2 q1 q2 q3 q4
  have b5 := (Below.refl w4.heap.size w4).alloc (Nat.le_refl _) (.cells #[.string (ordPi r (1 + t)).name, .slice B (ordPi r (1 + t)).tasks.length d] 25)
  have hb5 := below_step hb4 b5
  have HA5 := Lib.hid (HA3.out.later hb5)
  have HC5 := Lib.hid (hB.later b5)
  have HZ5 := Lib.hid (later_at hb5 HZ3.out)
  have HY5 := Lib.hid (made_at w4 (.cells #[.string (ordPi r (1 + t)).name, .slice B (ordPi r (1 + t)).tasks.length d] 25))
  have HB5 := Lib.hid (below_step HB3.out hb5)
  have HV5 := Lib.hid (HV3.out.later hb5)
  clear hb4 b5 hb5 hB
  unfold pipV
  go_wp2_with fail
  refine (HW.out _ HV5.out).mono ?_
  rintro e w6 ⟨rfl, hb6⟩
  have HB6 := Lib.hid (below_step HB5.out hb6)
  have HSM := Lib.hid (C.same (c := c) (d := d) (HV5.out.later hb6) (HA5.out.later hb6) (HC5.out.later hb6) HRP.out HRP.out)
  rw [sameP_iff.2 rfl] at HSM
  have HA6 := Lib.hid (HA5.out.later hb6)
  have HZ6 := Lib.hid (later_at hb6 HZ5.out)
  have HY6 := Lib.hid (later_at hb6 HY5.out)
  have x0 := cellH HZ6.out 0
  have x1 := cellH HZ6.out 1
  have y0 := cellH HY6.out 0
  have y1 := cellH HY6.out 1
  simp at x0 x1 y0 y1
  unfold pipV at HSM
  clear hb6
  go_wp2_with fail
  refine HSM.out.mono ?_
  rintro e w7 ⟨rfl, hb7⟩
  have HB7 := Lib.hid (below_step HB6.out hb7)
  clear x0 x1 y0 y1
  have x1 := cellH (later_at hb7 HZ6.out) 1
  simp at x1
  have HA7 := Lib.hid (HA6.out.later hb7)
  obtain ⟨pa, B1, c1, rfl, p0, pj, _⟩ := HA7.out.at_ (i := 0) rfl
  obtain ⟨pb, B2, c2, epb, r0, rj, _⟩ := HA7.out.at_ (i := 1) rfl
  obtain rfl : pa = pb := by injection epb
  have p3 := pj 3 _ rfl
  have r2 := rj 2 _ rfl
  have r3 := rj 3 _ rfl
  clear pj rj epb hb7
  have e1 : ((r : Int) == (r : Int)) = true := by simp
  have e2 : ((1 + (t : Int)) == (1 + (t : Int))) = true := by simp
  simp [Addr.add] at p3 r2 r3
  replace x1 : w7.cell? ⟨w2.heap.size, 1, none⟩ = some (.slice (some pa) 2 c) := x1
  go_wp2_with fail
  go_ret
  exact ⟨by first | rfl | simp, HB7.out⟩
end
end Go.Proofs.YtcfnmjhelhdobaaGreatDoor
