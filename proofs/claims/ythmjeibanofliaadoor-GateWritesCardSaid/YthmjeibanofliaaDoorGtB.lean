/-
  What layer 12's laws ask of the program's gate (a bundle); the first line of the laws. No conditions.
-/
import Derived.Test.YthmjeibanofliaaDoorGtA
namespace Go.Proofs.YthmjeibanofliaaDoor
open Go.RowKit

/-- What the program's Vote answers. -/
def VtP (w : World) (yes : List Int) (no may : Bool) (e : Ending) (w' : World) : Prop := ∃ B b, e = .returned (.tuple #[.agg #[.slice B yes.length b, .bool no], .bool may]) ∧ IntsC w' B b yes ∧ Below w.heap.size w w'
structure GateOk : Prop where
  vote : ∀ {w : World} {A : Option Addr} {c : Nat} {yes : List Int} (no is : Bool) (who need : Int), IntsC w A c yes → RisL yes → Calls Tryd.prog 15 #[.agg #[.slice A yes.length c, .bool no], .int .i64 who, .bool is, .int .i64 need] w (VtP w (yesV yes who is) (noV no is) (mayV (yesV yes who is) (noV no is) need))
  has : ∀ {w : World} {A : Option Addr} {c : Nat} {yes : List Int} (no : Bool) (who : Int), IntsC w A c yes → yes.length ≤ 64 → Calls Tryd.prog 16 #[.agg #[.slice A yes.length c, .bool no], .int .i64 who] w fun e w' => e = .returned (.bool (yes.contains who)) ∧ Below w.heap.size w w'
  right : ∀ {w : World} {A : Option Addr} {c : Nat} {yes : List Int} (no : Bool), IntsC w A c yes → yes.length ≤ 64 → Calls Tryd.prog 11 #[.agg #[.slice A yes.length c, .bool no]] w fun e w' => e = .returned (.bool (rightV yes)) ∧ Below w.heap.size w w'
  over : ∀ {w : World} (o t n : Int), 0 ≤ o → o ≤ 1000000 → 0 ≤ t → t ≤ 1000000 → 0 ≤ n → n ≤ 1000000 → Calls Tryd.prog 17 #[.int .i64 o, .int .i64 t, .int .i64 n] w fun e w' => e = .returned (.bool (decide (o + t ≤ n))) ∧ Below w.heap.size w w'
/-- Votes in a block. -/
def VtAt (w : World) (g : Nat) (A : Option Addr) (c : Nat) (yes : List Int) (no : Bool) : Prop := w.heap[g]? = some (.cells #[.slice A yes.length c, .bool no] 24 (0, 0)) ∧ IntsC w A c yes
theorem VtAt.later {w w' : World} {g : Nat} {A : Option Addr} {c : Nat} {yes : List Int} {no : Bool} (h : VtAt w g A c yes no) (hb : Below w.heap.size w w') : VtAt w' g A c yes no := ⟨later_at hb h.1, h.2.later hb⟩
theorem VtAt.cells {w : World} {g : Nat} {A : Option Addr} {c : Nat} {yes : List Int} {no : Bool} (h : VtAt w g A c yes no) : w.cell? ⟨g, 0, none⟩ = some (.slice A yes.length c) ∧ w.cell? ⟨g, 1, none⟩ = some (.bool no) :=
  ⟨by rw [cellH h.1]; rfl, by rw [cellH h.1]; rfl⟩
theorem VtAt.made {w : World} {A : Option Addr} {c : Nat} {yes : List Int} (h : IntsC w A c yes) (no : Bool) : VtAt (w.alloc (.cells #[.slice A yes.length c, .bool no] 24)) w.heap.size A c yes no :=
  ⟨made_at w _, h.later ((Below.refl _ _).alloc (Nat.le_refl _) _)⟩
theorem ints_new (w : World) (l : List Int) (_ : 0 < l.length) : IntsC (w.alloc (.cells (l.map (Value.int .i64)).toArray 3)) (some ⟨w.heap.size, 0, none⟩) l.length l := by
  refine ⟨fun _ => ⟨_, rfl, fun i hi => ?_⟩, Nat.le_refl _, fun h => by cases h⟩
  have ha : (⟨w.heap.size, 0, none⟩ : Addr).add i = ⟨w.heap.size, i, none⟩ := by unfold Addr.add; split <;> simp_all
  rw [ha, cellH (made_at w _)]
  simp [List.getElem?_eq_getElem hi]
set_option maxHeartbeats 8000000 in
set_option maxRecDepth 100000 in
theorem gtawake_true (C : GateOk) (w : World) : Calls Tryd.prog 4 #[] w fun e w' => e = .returned (.bool true) ∧ Below w.heap.size w w' := by
  have HC := Lib.hid C
  clear C
  have V0 := Lib.hid (fun (W : World) => show Calls Tryd.prog 15 #[.agg #[.slice none 0 0, .bool false], .int .i64 3, .bool true, .int .i64 2] W (VtP W [3] false false) from HC.out.vote false true 3 2 (IntsC.none_ W) RisL.nil)
  have h3 : RisL [3] := rightV_iff.1 (by decide)
  have V1 := Lib.hid (fun (W : World) A c (h : IntsC W A c [3]) => show Calls Tryd.prog 15 #[.agg #[.slice A 1 c, .bool false], .int .i64 1, .bool true, .int .i64 2] W (VtP W [1, 3] false true) from HC.out.vote false true 1 2 h h3)
  have V2 := Lib.hid (fun (W : World) A c (h : IntsC W A c [3]) => show Calls Tryd.prog 15 #[.agg #[.slice A 1 c, .bool false], .int .i64 2, .bool false, .int .i64 2] W (VtP W [3] true false) from HC.out.vote false false 2 2 h h3)
  have V3 := Lib.hid (fun (W : World) A c (h : IntsC W A c [3]) => show Calls Tryd.prog 15 #[.agg #[.slice A 1 c, .bool true], .int .i64 1, .bool true, .int .i64 2] W (VtP W [1, 3] true false) from HC.out.vote true true 1 2 h h3)
  go_enter Tryd.func4, Tryd.ntmps4
  go_wp2_with fail
  refine (V0.out _).mono ?_
  rintro e w1 ⟨A1, c1, rfl, hi1, hb1⟩
  have HV1 := Lib.hid (show VtAt (w1.alloc (.cells #[.slice A1 (1 : Nat) c1, .bool false] 24)) w1.heap.size A1 c1 [3] false from VtAt.made hi1 false)
  have HB1 := Lib.hid (hb1.alloc hb1.size (.cells #[.slice A1 (1 : Nat) c1, .bool false] 24))
  clear hi1 hb1 V0
  go_upto_region 2 with fail
  generalize hW1 : (w1.alloc (.cells #[.slice A1 (1 : Nat) c1, .bool false] 24)) = W1 at *
  clear hW1
  generalize w1.heap.size = g1 at *
  have x0 : W1.cell? ⟨g1, 0, none⟩ = some (.slice A1 (1 : Nat) c1) := HV1.out.cells.1
  have x1 := HV1.out.cells.2
  go_wp2_with fail
  refine (V1.out _ _ _ HV1.out.2).mono ?_
  rintro e w2 ⟨A2, c2, rfl, hi2, hb2⟩
  have hal := hb2.alloc hb2.size (.cells #[.slice A2 (2 : Nat) c2, .bool false] 24)
  have HW2 := Lib.hid (show VtAt (w2.alloc (.cells #[.slice A2 (2 : Nat) c2, .bool false] 24)) w2.heap.size A2 c2 [1, 3] false from VtAt.made hi2 false)
  have HV2 := Lib.hid (HV1.out.later hal)
  have HB2 := Lib.hid (below_step HB1.out hal)
  clear hi2 hb2 hal x0 x1 V1 HV1 HB1
  go_upto_region 3 with fail
  generalize hW2 : (w2.alloc (.cells #[.slice A2 (2 : Nat) c2, .bool false] 24)) = W2 at *
  clear hW2
  generalize w2.heap.size = g2 at *
  have x0 : W2.cell? ⟨g1, 0, none⟩ = some (.slice A1 (1 : Nat) c1) := HV2.out.cells.1
  have x1 := HV2.out.cells.2
  go_wp2_with fail
  refine (V2.out _ _ _ HV2.out.2).mono ?_
  rintro e w3 ⟨A3, c3, rfl, hi3, hb3⟩
  have hal := hb3.alloc hb3.size (.cells #[.slice A3 (1 : Nat) c3, .bool true] 24)
  have HX3 := Lib.hid (show VtAt (w3.alloc (.cells #[.slice A3 (1 : Nat) c3, .bool true] 24)) w3.heap.size A3 c3 [3] true from VtAt.made hi3 true)
  have HV3 := Lib.hid (HV2.out.later hal)
  have HW3 := Lib.hid (HW2.out.later hal)
  have HB3 := Lib.hid (below_step HB2.out hal)
  clear hi3 hb3 hal x0 x1 V2 HV2 HW2 HB2
  go_upto_region 4 with fail
  generalize hW3 : (w3.alloc (.cells #[.slice A3 (1 : Nat) c3, .bool true] 24)) = W3 at *
  clear hW3
  generalize w3.heap.size = g3 at *
  have x0 : W3.cell? ⟨g3, 0, none⟩ = some (.slice A3 (1 : Nat) c3) := HX3.out.cells.1
  have x1 := HX3.out.cells.2
  go_wp2_with fail
  refine (V3.out _ _ _ HX3.out.2).mono ?_
  rintro e w4 ⟨A4, c4, rfl, hi4, hb4⟩
  have hal := hb4.alloc hb4.size (.cells #[.slice A4 (2 : Nat) c4, .bool true] 24)
  have HV4 := Lib.hid (HV3.out.later hal)
  have HW4 := Lib.hid (HW3.out.later hal)
  have HB4 := Lib.hid (below_step HB3.out hal)
  clear hi4 hb4 hal x0 x1 V3 HV3 HW3 HB3 HX3
  go_upto_region 5 with fail
  generalize hW4 : (w4.alloc (.cells #[.slice A4 (2 : Nat) c4, .bool true] 24)) = W4 at *
  clear hW4
  generalize w4.heap.size = g4 at *
  have x0 : W4.cell? ⟨g2, 0, none⟩ = some (.slice A2 (2 : Nat) c2) := HW4.out.cells.1
  have hal := (Below.refl W4.heap.size W4).alloc (Nat.le_refl _) (.cells #[.int .i64 1, .int .i64 3] 3)
  have HSM := Lib.hid (gsame_is (l := [1, 3]) (HW4.out.2.later hal) (ints_new W4 [1, 3] (by decide)) (by decide))
  have HAL := Lib.hid hal
  clear hal
  go_wp2_with fail
  refine HSM.out.mono ?_
  rintro e w5 ⟨rfl, hb5⟩
  have hal := below_step HAL.out hb5
  have HV5 := Lib.hid (HV4.out.later hal)
  have HW5 := Lib.hid (HW4.out.later hal)
  have HB5 := Lib.hid (below_step HB4.out hal)
  clear hb5 hal HSM HAL HV4 HW4 HB4 x0
  have x0 : w5.cell? ⟨g1, 0, none⟩ = some (.slice A1 (1 : Nat) c1) := HV5.out.cells.1
  have hal := (Below.refl w5.heap.size w5).alloc (Nat.le_refl _) (.cells #[.int .i64 3] 3)
  have HSM := Lib.hid (gsame_is (l := [3]) (HV5.out.2.later hal) (ints_new w5 [3] (by decide)) (by decide))
  have HAL := Lib.hid hal
  clear hal
  go_wp2_with fail
  refine HSM.out.mono ?_
  rintro e w6 ⟨rfl, hb6⟩
  have hal := below_step HAL.out hb6
  have HV6 := Lib.hid (HV5.out.later hal)
  have HW6 := Lib.hid (HW5.out.later hal)
  have HB6 := Lib.hid (below_step HB5.out hal)
  clear hb6 hal HSM HAL HV5 HW5 HB5 x0
  have x0 : w6.cell? ⟨g2, 0, none⟩ = some (.slice A2 (2 : Nat) c2) := HW6.out.cells.1
  have x1 := HW6.out.cells.2
  go_wp2_with fail
  refine (HC.out.has (yes := [1, 3]) false 1 HW6.out.2 (by decide)).mono ?_
  rintro e w7 ⟨rfl, hb7⟩
  have HV7 := Lib.hid (HV6.out.later hb7)
  have HW7 := Lib.hid (HW6.out.later hb7)
  have HB7 := Lib.hid (below_step HB6.out hb7)
  clear hb7 HV6 HW6 HB6 x0 x1
  have x0 : w7.cell? ⟨g1, 0, none⟩ = some (.slice A1 (1 : Nat) c1) := HV7.out.cells.1
  have x1 := HV7.out.cells.2
  have n1 : ([1, 3] : List Int).contains 1 = true := by decide
  go_wp2_with fail
  refine (HC.out.has (yes := [3]) false 1 HV7.out.2 (by decide)).mono ?_
  rintro e w8 ⟨rfl, hb8⟩
  have HW8 := Lib.hid (HW7.out.later hb8)
  have HB8 := Lib.hid (below_step HB7.out hb8)
  clear hb8 HV7 HW7 HB7 x0 x1
  have n2 : ([3] : List Int).contains 1 = false := by decide
  go_wp2_with fail
  refine (HC.out.over 3 5 8 (by decide) (by decide) (by decide) (by decide) (by decide) (by decide)).mono ?_
  rintro e w9 ⟨rfl, hb9⟩
  have HW9 := Lib.hid (HW8.out.later hb9)
  have HB9 := Lib.hid (below_step HB8.out hb9)
  clear hb9 HW8 HB8
  go_wp2_with fail
  refine (HC.out.over 3 5 7 (by decide) (by decide) (by decide) (by decide) (by decide) (by decide)).mono ?_
  rintro e w10 ⟨rfl, hb10⟩
  have HWa := Lib.hid (HW9.out.later hb10)
  have HBa := Lib.hid (below_step HB9.out hb10)
  clear hb10 HW9 HB9
  have x0 : w10.cell? ⟨g2, 0, none⟩ = some (.slice A2 (2 : Nat) c2) := HWa.out.cells.1
  have x1 := HWa.out.cells.2
  go_wp2_with fail
  refine (HC.out.right (yes := [1, 3]) false HWa.out.2 (by decide)).mono ?_
  rintro e w11 ⟨rfl, hb11⟩
  have HBb := Lib.hid (below_step HBa.out hb11)
  clear hb11 HWa HBa x0 x1
  have n3 : rightV [1, 3] = true := by decide
  have n4 : rightV [3, 1] = false := by decide
  go_wp2_with fail
  refine (HC.out.right (yes := [3, 1]) false (ints_new w11 [3, 1] (by decide)) (by decide)).mono ?_
  rintro e w12 ⟨rfl, hb12⟩
  have HBc := Lib.hid (below_step (below_step HBb.out ((Below.refl w11.heap.size w11).alloc (Nat.le_refl _) (.cells #[.int .i64 3, .int .i64 1] 3))) hb12)
  clear hb12 HBb
  go_wp2_with fail
  go_ret
  exact ⟨by first | rfl | simp, HBc.out⟩
end Go.Proofs.YthmjeibanofliaaDoor
