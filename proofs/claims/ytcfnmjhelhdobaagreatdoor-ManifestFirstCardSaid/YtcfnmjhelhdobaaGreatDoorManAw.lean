/-
  The laws' first line: a few texts, taken apart, printed, held against each other. Conditions: what the library's variables hold.
-/
import Derived.Test.YtcfnmjhelhdobaaGreatDoorManW
import Derived.Test.YtcfnmjhelhdobaaGreatDoorPhaseC
import Derived.KernelRfl
import Derived.BigQuiet
import Derived.Deep.QuietTactic
namespace Go.Proofs.YtcfnmjhelhdobaaGreatDoor
open Go.RowKit

abbrev am1 : ByteArray := ⟨#[112, 105, 112, 101, 32, 112, 10, 116, 97, 115, 107, 32, 97, 10, 103, 97, 116, 101, 32, 103, 32, 97, 102, 116, 101, 114, 32, 97, 32, 116, 111, 32, 48, 58, 48, 48, 48, 48, 32, 110, 101, 101, 100, 32, 50, 32, 116, 105, 109, 101, 32, 57, 10, 116, 97, 115, 107, 32, 98, 32, 97, 102, 116, 101, 114, 32, 97, 44, 103, 32, 114, 101, 116, 114, 121, 32, 49, 10]⟩
abbrev am2 : ByteArray := ⟨#[112, 105, 112, 101, 32, 112, 10, 116, 97, 115, 107, 32, 97, 32, 97, 102, 116, 101, 114, 32, 98]⟩
abbrev am3 : ByteArray := ⟨#[112, 105, 112, 101, 32, 112, 10, 116, 97, 115, 107, 32, 97, 32, 114, 101, 116, 114, 121, 32, 54]⟩
abbrev am5 : ByteArray := ⟨#[112, 105, 112, 101, 32, 112, 10, 103, 97, 116, 101, 32, 103, 32, 116, 111, 32, 48, 58, 48, 48, 48, 48]⟩
abbrev am9 : ByteArray := ⟨#[112, 105, 112, 101, 32, 112, 10, 116, 97, 115, 107, 32, 97, 32, 116, 105, 109, 101, 32, 53, 10, 103, 97, 116, 101, 32, 103, 32, 97, 102, 116, 101, 114, 32, 97, 32, 116, 111, 32, 48, 58, 48, 48, 48, 48, 32, 110, 101, 101, 100, 32, 50, 32, 116, 105, 109, 101, 32, 57, 10, 116, 97, 115, 107, 32, 98, 32, 97, 102, 116, 101, 114, 32, 97, 44, 103, 32, 114, 101, 116, 114, 121, 32, 49, 32, 116, 105, 109, 101, 32, 53, 10]⟩
abbrev awP : PiP := ⟨⟨#[112]⟩, [⟨⟨#[97]⟩, [], 0, 5, 0, 0, 0⟩, ⟨⟨#[103]⟩, [0], 0, 9, 2, 0, 0⟩, ⟨⟨#[98]⟩, [0, 1], 1, 5, 0, 0, 0⟩]⟩
theorem am1_is : parseP am1 = .inr awP := by kernel_rfl
theorem am2_is : parseP am2 = .inl ⟨6, 20⟩ := by kernel_rfl
theorem am3_is : parseP am3 = .inl ⟨16, 20⟩ := by kernel_rfl
theorem am4_is : parseP ⟨#[]⟩ = .inl ⟨6, 0⟩ := by kernel_rfl
theorem am5_is : parseP am5 = .inl ⟨3, 7⟩ := by kernel_rfl
theorem am9_is : textP awP = am9 := by kernel_rfl
theorem awP_right : RightPi awP := parse_right am1_is
/-- What the first pipeline is, in memory, and what the errors are. -/
def AwS (B : Nat) (A : Option Addr) (c F1 F2 F3 F4 : Nat) (W : World) : Prop := VarL W ∧ TksAt W A awP.tasks ∧ W.heap[B]? = some (.cells #[.string ⟨#[112]⟩, .slice A (3 : Nat) c] 25 (0, 0)) ∧ FaultAt W F1 20 6 ∧ FaultAt W F2 20 16 ∧ FaultAt W F3 0 6 ∧ FaultAt W F4 7 3
theorem AwS.later {B : Nat} {A : Option Addr} {c F1 F2 F3 F4 : Nat} {v v' : World} (h : AwS B A c F1 F2 F3 F4 v) (hb : Below v.heap.size v v') : AwS B A c F1 F2 F3 F4 v' := by
  obtain ⟨a, b, d, e, f, g, i⟩ := h
  exact ⟨a.later hb, b.later hb, later_at hb d, e.later hb, f.later hb, g.later hb, i.later hb⟩
abbrev noP : ByteArray := ⟨#[]⟩

section
variable {w : World}
set_option maxHeartbeats 4000000 in
set_option maxRecDepth 100000 in
theorem manawake_true (C : ManOk) (hV : VarL w) : Calls Tryz.prog 7 #[] w fun e w' => e = .returned (.bool true) ∧ Below w.heap.size w w' := by
  have al : ∀ (v : World) (o : Obj), Below v.heap.size v (v.alloc o) := fun v o => (Below.refl _ _).alloc (Nat.le_refl _) o
  have HAL := Lib.hid al
  have HV := Lib.hid hV
  clear hV al
  go_enter Tryz.func7, Tryz.ntmps7
  go_wp2_with fail
  refine (C.parse am1 HV.out (by decide)).mono ?_
  rintro e w1 hp
  rw [am1_is] at hp
  obtain ⟨hb1, A, c, rfl, hA⟩ := hp
  have HS1 := Lib.hid (show VarL (w1.alloc (.cells #[.string ⟨#[112]⟩, .slice A (3 : Nat) c] 25)) ∧ TksAt (w1.alloc (.cells #[.string ⟨#[112]⟩, .slice A (3 : Nat) c] 25)) A awP.tasks ∧ (w1.alloc (.cells #[.string ⟨#[112]⟩, .slice A (3 : Nat) c] 25)).heap[w1.heap.size]? = some (.cells #[.string ⟨#[112]⟩, .slice A (3 : Nat) c] 25 (0, 0)) from ⟨(HV.out.later hb1).later (HAL.out _ _), hA.later (HAL.out _ _), made_at _ _⟩)
  have HB1 := Lib.hid (below_step hb1 (HAL.out _ (.cells #[.string ⟨#[112]⟩, .slice A (3 : Nat) c] 25)))
  clear hb1 hA HV
  unfold pipV
  go_wp2_with fail
  refine (C.parse am2 HS1.out.1 (by decide)).mono ?_
  rintro e w2 hp
  rw [am2_is] at hp
  obtain ⟨hb, A2, c2, F2, rfl, hF⟩ := hp
  have hb2 := below_step hb (HAL.out w2 (.cells #[.string noP, .slice A2 (0 : Nat) c2] 25))
  have hF2 := hF.later (HAL.out w2 (.cells #[.string noP, .slice A2 (0 : Nat) c2] 25))
  have HS2 := Lib.hid (show VarL (w2.alloc (.cells #[.string noP, .slice A2 (0 : Nat) c2] 25)) ∧ TksAt (w2.alloc (.cells #[.string noP, .slice A2 (0 : Nat) c2] 25)) A awP.tasks ∧ (w2.alloc (.cells #[.string noP, .slice A2 (0 : Nat) c2] 25)).heap[w1.heap.size]? = some (.cells #[.string ⟨#[112]⟩, .slice A (3 : Nat) c] 25 (0, 0)) ∧ FaultAt (w2.alloc (.cells #[.string noP, .slice A2 (0 : Nat) c2] 25)) F2 20 6 from ⟨HS1.out.1.later hb2, HS1.out.2.1.later hb2, later_at hb2 (HS1.out.2.2), hF2⟩)
  have HB2 := Lib.hid (below_step HB1.out hb2)
  clear hb hb2 hF hF2 HS1 HB1
  unfold pipV fltV
  go_wp2_with fail
  refine (C.parse am3 HS2.out.1 (by decide)).mono ?_
  rintro e w3 hp
  rw [am3_is] at hp
  obtain ⟨hb, A3, c3, F3, rfl, hF⟩ := hp
  have hb2 := below_step hb (HAL.out w3 (.cells #[.string noP, .slice A3 (0 : Nat) c3] 25))
  have hF2 := hF.later (HAL.out w3 (.cells #[.string noP, .slice A3 (0 : Nat) c3] 25))
  have HS3 := Lib.hid (show VarL (w3.alloc (.cells #[.string noP, .slice A3 (0 : Nat) c3] 25)) ∧ TksAt (w3.alloc (.cells #[.string noP, .slice A3 (0 : Nat) c3] 25)) A awP.tasks ∧ (w3.alloc (.cells #[.string noP, .slice A3 (0 : Nat) c3] 25)).heap[w1.heap.size]? = some (.cells #[.string ⟨#[112]⟩, .slice A (3 : Nat) c] 25 (0, 0)) ∧ FaultAt (w3.alloc (.cells #[.string noP, .slice A3 (0 : Nat) c3] 25)) F2 20 6 ∧ FaultAt (w3.alloc (.cells #[.string noP, .slice A3 (0 : Nat) c3] 25)) F3 20 16 from ⟨HS2.out.1.later hb2, HS2.out.2.1.later hb2, later_at hb2 (HS2.out.2.2.1), (HS2.out.2.2.2).later hb2, hF2⟩)
  have HB3 := Lib.hid (below_step HB2.out hb2)
  clear hb hb2 hF hF2 HS2 HB2
  unfold pipV fltV
  go_wp2_with fail
  refine (C.parse ⟨#[]⟩ HS3.out.1 (by decide)).mono ?_
  rintro e w4 hp
  rw [am4_is] at hp
  obtain ⟨hb, A4, c4, F4, rfl, hF⟩ := hp
  have hb2 := below_step hb (HAL.out w4 (.cells #[.string noP, .slice A4 (0 : Nat) c4] 25))
  have hF2 := hF.later (HAL.out w4 (.cells #[.string noP, .slice A4 (0 : Nat) c4] 25))
  have HS4 := Lib.hid (show VarL (w4.alloc (.cells #[.string noP, .slice A4 (0 : Nat) c4] 25)) ∧ TksAt (w4.alloc (.cells #[.string noP, .slice A4 (0 : Nat) c4] 25)) A awP.tasks ∧ (w4.alloc (.cells #[.string noP, .slice A4 (0 : Nat) c4] 25)).heap[w1.heap.size]? = some (.cells #[.string ⟨#[112]⟩, .slice A (3 : Nat) c] 25 (0, 0)) ∧ FaultAt (w4.alloc (.cells #[.string noP, .slice A4 (0 : Nat) c4] 25)) F2 20 6 ∧ FaultAt (w4.alloc (.cells #[.string noP, .slice A4 (0 : Nat) c4] 25)) F3 20 16 ∧ FaultAt (w4.alloc (.cells #[.string noP, .slice A4 (0 : Nat) c4] 25)) F4 0 6 from ⟨HS3.out.1.later hb2, HS3.out.2.1.later hb2, later_at hb2 (HS3.out.2.2.1), (HS3.out.2.2.2.1).later hb2, (HS3.out.2.2.2.2).later hb2, hF2⟩)
  have HB4 := Lib.hid (below_step HB3.out hb2)
  clear hb hb2 hF hF2 HS3 HB3
  unfold pipV fltV
  go_wp2_with fail
  refine (C.parse am5 HS4.out.1 (by decide)).mono ?_
  rintro e w5 hp
  rw [am5_is] at hp
  obtain ⟨hb, A5, c5, F5, rfl, hF⟩ := hp
  have hb2 := below_step hb (HAL.out w5 (.cells #[.string noP, .slice A5 (0 : Nat) c5] 25))
  have hF2 := hF.later (HAL.out w5 (.cells #[.string noP, .slice A5 (0 : Nat) c5] 25))
  have HS5 := Lib.hid (show VarL (w5.alloc (.cells #[.string noP, .slice A5 (0 : Nat) c5] 25)) ∧ TksAt (w5.alloc (.cells #[.string noP, .slice A5 (0 : Nat) c5] 25)) A awP.tasks ∧ (w5.alloc (.cells #[.string noP, .slice A5 (0 : Nat) c5] 25)).heap[w1.heap.size]? = some (.cells #[.string ⟨#[112]⟩, .slice A (3 : Nat) c] 25 (0, 0)) ∧ FaultAt (w5.alloc (.cells #[.string noP, .slice A5 (0 : Nat) c5] 25)) F2 20 6 ∧ FaultAt (w5.alloc (.cells #[.string noP, .slice A5 (0 : Nat) c5] 25)) F3 20 16 ∧ FaultAt (w5.alloc (.cells #[.string noP, .slice A5 (0 : Nat) c5] 25)) F4 0 6 ∧ FaultAt (w5.alloc (.cells #[.string noP, .slice A5 (0 : Nat) c5] 25)) F5 7 3 from ⟨HS4.out.1.later hb2, HS4.out.2.1.later hb2, later_at hb2 (HS4.out.2.2.1), (HS4.out.2.2.2.1).later hb2, (HS4.out.2.2.2.2.1).later hb2, (HS4.out.2.2.2.2.2).later hb2, hF2⟩)
  have HB5 := Lib.hid (below_step HB4.out hb2)
  clear hb hb2 hF hF2 HS4 HB4
  unfold pipV fltV
  obtain ⟨W5, hW5⟩ : ∃ W5, w5.alloc (.cells #[.string noP, .slice A5 (0 : Nat) c5] 25) = W5 := ⟨_, rfl⟩
  rw [hW5] at HS5 HB5
  have HS := Lib.hid (show AwS w1.heap.size A c F2 F3 F4 F5 W5 from HS5.out)
  clear HS5
  have x0 := cellH HS.out.2.2.1 0
  have x1 := cellH HS.out.2.2.1 1
  simp at x0 x1
  have hpr := C.print (c := c) HS.out.1 HS.out.2.1 awP_right
  rw [am9_is, if_pos (by decide), if_pos (by decide)] at hpr
  have HPR := Lib.hid hpr
  clear hpr
  go_wp2_with fail
  refine HPR.out.mono ?_
  rintro e w6 ⟨rfl, hb⟩
  have HS6 := Lib.hid (HS.out.later hb)
  have HB6 := Lib.hid (below_step HB5.out hb)
  clear hb HPR HS HB5 x0 x1
  go_wp2_with fail
  refine (C.printNo HS6.out.1).mono ?_
  rintro e w7 ⟨rfl, hb⟩
  have HS7 := Lib.hid (HS6.out.later hb)
  have HB7 := Lib.hid (below_step HB6.out hb)
  clear hb HS6 HB6
  have x0 := cellH HS7.out.2.2.1 0
  have x1 := cellH HS7.out.2.2.1 1
  simp at x0 x1
  obtain ⟨ad, B0, k0, rfl, p0, pj, _⟩ := HS7.out.2.1.at_ (i := 0) rfl
  obtain ⟨ad1, B1, k1, e1, q0, qj, _⟩ := HS7.out.2.1.at_ (i := 1) rfl
  obtain ⟨ad2, B2, k2, e2, r0, rj, hN⟩ := HS7.out.2.1.at_ (i := 2) rfl
  obtain rfl : ad = ad1 := by injection e1
  obtain rfl : ad = ad2 := by injection e2
  obtain ⟨nd, rfl, n1⟩ := hN.1.at_ (i := 1) rfl
  have p3 := pj 3 _ rfl
  have q4 := qj 4 _ rfl
  have r1 := rj 1 _ rfl
  clear pj qj rj p0 q0 r0 e1 e2 hN
  simp [Addr.add] at p3 q4 r1 n1
  have HW1 := Lib.hid (wrong_is C.at_ HS7.out.1 HS7.out.2.2.2.1 6 20)
  unfold fltV at HW1
  go_upto_region 10 with fail
  dsimp only [List.append]
  go_wp2_with fail
  refine HW1.out.mono ?_
  rintro e w8 ⟨rfl, hb⟩
  have HS8 := Lib.hid (HS7.out.later hb)
  have HB8 := Lib.hid (below_step HB7.out hb)
  have HW2 := Lib.hid (wrong_is C.at_ HS8.out.1 HS8.out.2.2.2.2.1 16 20)
  unfold fltV at HW2
  clear hb HW1 HS7 HB7 x0 x1 p3 q4 r1 n1
  go_wp2_with fail
  refine HW2.out.mono ?_
  rintro e w9 ⟨rfl, hb⟩
  have HS9 := Lib.hid (HS8.out.later hb)
  have HB9 := Lib.hid (below_step HB8.out hb)
  have HW3 := Lib.hid (wrong_is C.at_ HS9.out.1 HS9.out.2.2.2.2.2.1 6 0)
  unfold fltV at HW3
  clear hb HW2 HS8 HB8
  go_wp2_with fail
  refine HW3.out.mono ?_
  rintro e w10 ⟨rfl, hb⟩
  have HS10 := Lib.hid (HS9.out.later hb)
  have HB10 := Lib.hid (below_step HB9.out hb)
  have HW4 := Lib.hid (wrong_is C.at_ HS10.out.1 HS10.out.2.2.2.2.2.2 3 7)
  unfold fltV at HW4
  clear hb HW3 HS9 HB9
  go_wp2_with fail
  refine HW4.out.mono ?_
  rintro e w11 ⟨rfl, hb⟩
  have HS11 := Lib.hid (HS10.out.later hb)
  have HB11 := Lib.hid (below_step HB10.out hb)
  clear hb HW4 HS10 HB10
  have x0 := cellH HS11.out.2.2.1 0
  have x1 := cellH HS11.out.2.2.1 1
  simp at x0 x1
  have HRI := Lib.hid (C.right (c := c) HS11.out.1 HS11.out.2.1 awP_right)
  unfold pipV at HRI
  go_wp2_with fail
  refine HRI.out.mono ?_
  rintro e w12 ⟨rfl, hb⟩
  have HS12 := Lib.hid (HS11.out.later hb)
  have HB12 := Lib.hid (below_step HB11.out hb)
  clear hb HRI HS11 HB11 x0 x1
  have x0 := cellH HS12.out.2.2.1 0
  have x1 := cellH HS12.out.2.2.1 1
  simp at x0 x1
  have hsm := C.same (c := c) (d := c) HS12.out.1 HS12.out.2.1 HS12.out.2.1 awP_right awP_right
  rw [sameP_iff.2 rfl] at hsm
  have HSM := Lib.hid hsm
  clear hsm
  unfold pipV at HSM
  go_wp2_with fail
  refine HSM.out.mono ?_
  rintro e w13 ⟨rfl, hb⟩
  have HS13 := Lib.hid (HS12.out.later hb)
  have HB13 := Lib.hid (below_step HB12.out hb)
  clear hb HSM HS12 HB12 x0 x1
  have x0 := cellH HS13.out.2.2.1 0
  have x1 := cellH HS13.out.2.2.1 1
  simp at x0 x1
  have HSN := Lib.hid (C.sameNo (c := c) HS13.out.1 HS13.out.2.1 awP_right)
  unfold pipV at HSN
  go_wp2_with fail
  refine HSN.out.mono ?_
  rintro e w14 ⟨rfl, hb⟩
  have HB14 := Lib.hid (below_step HB13.out hb)
  clear hb HSN HS13 HB13 x0 x1
  go_wp2_with fail
  go_ret
  exact ⟨by first | rfl | simp, HB14.out⟩
end
end Go.Proofs.YtcfnmjhelhdobaaGreatDoor
