/-
  The law's first line: a few texts and words, taken apart. Conditions: what the library's variable errors.errorType holds.
-/
import Derived.Test.YtfekjopchlokbaaDoorLexF
import Derived.KernelRfl
namespace Go.Proofs.YtfekjopchlokbaaDoor
open Go.RowKit

abbrev aw1 : ByteArray := ⟨#[112, 105, 112, 101, 32, 112, 10, 10, 32, 116, 97, 115, 107, 32, 32, 97, 32]⟩
theorem aw1_is : lexP aw1 = .good [[⟨⟨#[112, 105, 112, 101]⟩, 0⟩, ⟨⟨#[112]⟩, 5⟩], [⟨⟨#[116, 97, 115, 107]⟩, 9⟩, ⟨⟨#[97]⟩, 15⟩]] := by kernel_rfl
theorem aw2_is : lexP ⟨#[97, 9, 98]⟩ = .bad 3 1 := by kernel_rfl
/-- What awake's errors are. -/
def AwE (F1 F2 F3 F4 : Nat) (W : World) : Prop := VarL W ∧ FaultAt W F1 1 3 ∧ FaultAt W F2 3 16 ∧ FaultAt W F3 4 15 ∧ FaultAt W F4 8 15
theorem AwE.later {F1 F2 F3 F4 : Nat} : ∀ v v', AwE F1 F2 F3 F4 v → Below v.heap.size v v' → AwE F1 F2 F3 F4 v' := fun _ _ ⟨a, b, c, d, e⟩ h => ⟨a.later h, b.later h, c.later h, d.later h, e.later h⟩

section
variable {w : World}
set_option maxHeartbeats 2000000 in
set_option maxRecDepth 100000 in
theorem lexawake_true (C : LexOk) (hV : VarL w) : Calls Tryd.prog 4 #[] w fun e w' => e = .returned (.bool true) ∧ Below w.heap.size w w' := by
  have HV := Lib.hid hV
  clear hV
  go_enter Tryd.func4, Tryd.ntmps4
  go_wp2_with fail
  refine (C.lines _ HV.out (by decide)).mono ?_
  rintro e w1 hp
  rw [aw1_is] at hp
  obtain ⟨hb1, A, cA, rfl, hA⟩ := hp
  have HB1 := Lib.hid hb1
  have HV1 := Lib.hid (HV.out.later hb1)
  have HA1 := Lib.hid hA
  clear hb1 hA HV
  go_wp2_with fail
  refine (C.lines _ HV1.out (by decide)).mono ?_
  rintro e w2 hp
  rw [aw2_is] at hp
  obtain ⟨hb2, A2, cA2, F1, rfl, hF1⟩ := hp
  have HB2 := Lib.hid (below_step HB1.out hb2)
  have HV2 := Lib.hid (HV1.out.later hb2)
  have HA2 := Lib.hid (HA1.out.later hb2)
  have HE2 := Lib.hid hF1
  clear hb2 hF1 HV1 HB1 HA1
  unfold fltV
  go_wp2_with fail
  refine (C.num7 HV2.out).mono ?_
  rintro e w3 ⟨hb3, rfl⟩
  have HB3 := Lib.hid (below_step HB2.out hb3)
  have HV3 := Lib.hid (HV2.out.later hb3)
  have HA3 := Lib.hid (HA2.out.later hb3)
  have HE3 := Lib.hid (HE2.out.later hb3)
  clear hb3 HV2 HB2 HA2 HE2
  go_wp2_with fail
  refine (C.num07 HV3.out).mono ?_
  rintro e w4 ⟨hb4, F2, rfl, hF2⟩
  have HB4 := Lib.hid (below_step HB3.out hb4)
  have HV4 := Lib.hid (HV3.out.later hb4)
  have HA4 := Lib.hid (HA3.out.later hb4)
  have HE4 := Lib.hid (HE3.out.later hb4)
  have HF4 := Lib.hid hF2
  clear hb4 hF2 HV3 HB3 HA3 HE3
  unfold fltV
  go_wp2_with fail
  refine (C.nms HV4.out).mono ?_
  rintro e w5 ⟨hb5, M, cM, rfl, hM⟩
  have HB5 := Lib.hid (below_step HB4.out hb5)
  have HV5 := Lib.hid (HV4.out.later hb5)
  have HA5 := Lib.hid (HA4.out.later hb5)
  have HE5 := Lib.hid (show FaultAt w5 F1 1 3 ∧ FaultAt w5 F2 3 16 from ⟨HE4.out.later hb5, HF4.out.later hb5⟩)
  have HM5 := Lib.hid hM
  clear hb5 hM HV4 HB4 HA4 HE4 HF4
  go_wp2_with fail
  refine (C.nmsBad HV5.out).mono ?_
  rintro e w6 ⟨hb6, M2, cM2, F3, rfl, hF3⟩
  have HB6 := Lib.hid (below_step HB5.out hb6)
  have HV6 := Lib.hid (HV5.out.later hb6)
  have HA6 := Lib.hid (HA5.out.later hb6)
  have HM6 := Lib.hid (HM5.out.later hb6)
  have HE6 := Lib.hid (show FaultAt w6 F1 1 3 ∧ FaultAt w6 F2 3 16 ∧ FaultAt w6 F3 4 15 from ⟨HE5.out.1.later hb6, HE5.out.2.later hb6, hF3⟩)
  clear hb6 hF3 HV5 HB5 HA5 HE5 HM5
  unfold fltV
  go_wp2_with fail
  refine (C.lab HV6.out).mono ?_
  rintro e w7 ⟨hb7, rfl⟩
  have hb7 := hb7.alloc hb7.size (.cells #[.int .i64 1, .int .u16 15] 44)
  have HZ7 := Lib.hid (made_at w7 (.cells #[.int .i64 1, .int .u16 15] 44))
  have HB7 := Lib.hid (below_step HB6.out hb7)
  have HV7 := Lib.hid (HV6.out.later hb7)
  have HA7 := Lib.hid (HA6.out.later hb7)
  have HM7 := Lib.hid (HM6.out.later hb7)
  have HE7 := Lib.hid (show FaultAt (w7.alloc (.cells #[.int .i64 1, .int .u16 15] 44)) F1 1 3 ∧ FaultAt (w7.alloc (.cells #[.int .i64 1, .int .u16 15] 44)) F2 3 16 ∧ FaultAt (w7.alloc (.cells #[.int .i64 1, .int .u16 15] 44)) F3 4 15 from ⟨HE6.out.1.later hb7, HE6.out.2.1.later hb7, HE6.out.2.2.later hb7⟩)
  clear hb7 HV6 HB6 HA6 HE6 HM6
  go_wp2_with fail
  refine (C.name HV7.out).mono ?_
  rintro e w8 ⟨hb8, F4, rfl, hF4⟩
  have HB8 := Lib.hid (below_step HB7.out hb8)
  obtain ⟨ad, B, cB, rfl, x0, hB⟩ := (HA7.out.later hb8).at_ (i := 1) rfl
  obtain ⟨bd, rfl, x1, x2⟩ := hB.at_ (i := 0) rfl
  obtain ⟨_, e1, x3, x4⟩ := hB.at_ (i := 1) rfl
  injection e1 with e1
  subst e1
  obtain ⟨md, rfl, x5, x6⟩ := (HM7.out.later hb8).at_ (i := 1) rfl
  have hz8 := later_at hb8 HZ7.out
  have x7 := cellH hz8 0
  have x8 := cellH hz8 1
  simp at x7 x8
  have HE8 := Lib.hid (show AwE F1 F2 F3 F4 w8 from ⟨HV7.out.later hb8, HE7.out.1.later hb8, HE7.out.2.1.later hb8, HE7.out.2.2.later hb8, hF4⟩)
  clear hb8 hF4 HV7 HB7 HA7 HE7 HM7 HZ7 hz8 hB
  unfold fltV
  go_upto_region 9 with fail
  simp only [Nat.zero_mul, Nat.one_mul] at x1 x2 x4 x6
  simp [Addr.add] at x0 x1 x2 x4 x6
  clear x3
  dsimp only [List.append]
  go_wp2_with fail
  refine (wrong_is C.at_ HE8.out.1 HE8.out.2.1 3 1).mono ?_
  rintro e w9 ⟨rfl, hb⟩
  replace x6 := cell_later hb x6
  replace x7 := cell_later hb x7
  replace x8 := cell_later hb x8
  have HE9 := Lib.hid (AwE.later _ _ HE8.out hb)
  have HB9 := Lib.hid (below_step HB8.out hb)
  clear hb HE8 HB8 x0 x1 x2 x4
  go_wp2_with fail
  refine (wrong_is C.at_ HE9.out.1 HE9.out.2.2.1 16 3).mono ?_
  rintro e w10 ⟨rfl, hb⟩
  replace x6 := cell_later hb x6
  replace x7 := cell_later hb x7
  replace x8 := cell_later hb x8
  have HE10 := Lib.hid (AwE.later _ _ HE9.out hb)
  have HB10 := Lib.hid (below_step HB9.out hb)
  clear hb HE9 HB9
  go_wp2_with fail
  refine (wrong_is C.at_ HE10.out.1 HE10.out.2.2.2.1 15 4).mono ?_
  rintro e w11 ⟨rfl, hb⟩
  replace x7 := cell_later hb x7
  replace x8 := cell_later hb x8
  have HE11 := Lib.hid (AwE.later _ _ HE10.out hb)
  have HB11 := Lib.hid (below_step HB10.out hb)
  clear hb HE10 HB10 x6
  go_wp2_with fail
  refine (wrong_is C.at_ HE11.out.1 HE11.out.2.2.2.2 15 8).mono ?_
  rintro e w12 ⟨rfl, hb⟩
  have HE12 := Lib.hid (AwE.later _ _ HE11.out hb)
  have HB12 := Lib.hid (below_step HB11.out hb)
  clear hb HE11 HB11 x7 x8 
  go_wp2_with fail
  refine (C.nilA HE12.out.1).mono ?_
  rintro e w13 ⟨rfl, hb⟩
  have HB13 := Lib.hid (below_step HB12.out hb)
  clear hb
  go_wp2_with fail
  go_ret
  exact ⟨by simp, HB13.out⟩
end
end Go.Proofs.YtfekjopchlokbaaDoor
