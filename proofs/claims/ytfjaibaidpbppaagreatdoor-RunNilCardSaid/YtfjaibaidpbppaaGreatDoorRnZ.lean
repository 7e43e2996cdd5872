/-
  RunNil over what the calls of a run that is none do. Conditions: what the library's variables hold.
-/
import Derived.Test.YtfjaibaidpbppaaGreatDoorRnD
import Derived.Test.YtfjaibaidpbppaaGreatDoorRnO
namespace Go.Proofs.YtfjaibaidpbppaaGreatDoor
open Go.RowKit

set_option maxHeartbeats 1000000 in
set_option maxRecDepth 100000 in
/-- The law's text of none. -/
theorem rtext_no (C : RunNo) {W : World} (hV : VarsAt W) : Calls Tryz.prog 17 #[.pointer none] W fun e W' => e = .returned (.string .empty) ∧ Below W.heap.size W W' := by
  have hal := (Below.refl W.heap.size W).alloc (Nat.le_refl _) (.cells #[.pointer none, .int .i64 0] 88)
  have HC := Lib.hid C
  have HW := Lib.hid (show WrB W (W.alloc (.cells #[.pointer none, .int .i64 0] 88)) (W.heap.size + 1) W.heap.size .empty from ⟨_, WrV.zero hV, fun i hi => by rw [List.mem_singleton] at hi; subst hi; exact ⟨Nat.le_refl _, Nat.lt_succ_self _⟩⟩)
  have HB := Lib.hid hal
  clear C hV hal
  go_enter Tryz.func17, Tryz.ntmps17
  go_upto_region 2 with fail
  generalize hW1 : (W.alloc (.cells #[.pointer none, .int .i64 0] 88)) = W1 at *
  clear hW1
  go_wp2_with fail
  refine (HC.out.write _ _).mono ?_
  rintro e w2 ⟨rfl, hb2⟩
  have HW2 := Lib.hid (HW.out.below hb2)
  have HB2 := Lib.hid (below_step HB.out hb2)
  clear hb2
  go_wp2_with fail
  refine HW2.out.str.mono ?_
  rintro e w3 ⟨rfl, hb3⟩
  have HB3 := Lib.hid (below_step HB2.out hb3)
  clear hb3
  go_wp2_with fail
  go_ret
  exact ⟨rfl, HB3.out⟩
set_option maxHeartbeats 8000000 in
set_option maxRecDepth 100000 in
theorem runnil_true (C : RunNo) (K : AwkR) {w : World} (hV : VarsAt w) (q : ROp) : Calls Tryz.prog 5 #[.agg (ropL q).toArray] w fun e w' => e = .returned (.bool true) ∧ Below w.heap.size w w' := by
  have HC := Lib.hid C
  have HK := Lib.hid K
  obtain ⟨q0, q1, q2, q3, q4, q5⟩ := q
  unfold ropL
  simp only
  have HB0 := Lib.hid ((Below.refl w.heap.size w).alloc (Nat.le_refl _) (.cells #[.int .i64 q0, .int .i64 q1, .int .i64 q2, .int .i64 q3, .int .i64 q4, .string q5] 33))
  have HG0 := Lib.hid (made_at w (.cells #[.int .i64 q0, .int .i64 q1, .int .i64 q2, .int .i64 q3, .int .i64 q4, .string q5] 33))
  have HV := Lib.hid hV
  clear C K hV
  go_enter Tryz.func5, Tryz.ntmps5
  go_upto_region 1 with fail
  generalize hW0 : w.alloc _ = w0 at *
  clear hW0
  have x0 := cellH HG0.out 0
  have x1 := cellH HG0.out 1
  have x2 := cellH HG0.out 2
  have x3 := cellH HG0.out 3
  have x4 := cellH HG0.out 4
  have x5 := cellH HG0.out 5
  simp at x0 x1 x2 x3 x4 x5
  go_wp2_with fail
  refine (HC.out.settle _ _).mono ?_
  rintro e w1 ⟨rfl, hb⟩
  have HB1 := Lib.hid (below_step HB0.out hb)
  have HG1 := Lib.hid (later_at hb HG0.out)
  clear hb HB0 HG0 x0 x1 x2 x3 x4 x5
  have x0 := cellH HG1.out 0
  have x1 := cellH HG1.out 1
  have x2 := cellH HG1.out 2
  have x3 := cellH HG1.out 3
  have x4 := cellH HG1.out 4
  have x5 := cellH HG1.out 5
  simp at x0 x1 x2 x3 x4 x5
  go_wp2_with fail
  refine (HC.out.best _ _).mono ?_
  rintro e w2 ⟨rfl, hb⟩
  have HB2 := Lib.hid (below_step HB1.out hb)
  have HG2 := Lib.hid (later_at hb HG1.out)
  clear hb HB1 HG1 x0 x1 x2 x3 x4 x5
  have x0 := cellH HG2.out 0
  have x1 := cellH HG2.out 1
  have x2 := cellH HG2.out 2
  have x3 := cellH HG2.out 3
  have x4 := cellH HG2.out 4
  have x5 := cellH HG2.out 5
  simp at x0 x1 x2 x3 x4 x5
  go_wp2_with fail
  refine (HC.out.find _ _ _ _).mono ?_
  rintro e w3 ⟨rfl, hb⟩
  have HB3 := Lib.hid (below_step HB2.out hb)
  have HG3 := Lib.hid (later_at hb HG2.out)
  clear hb HB2 HG2 x0 x1 x2 x3 x4 x5
  have x0 := cellH HG3.out 0
  have x1 := cellH HG3.out 1
  have x2 := cellH HG3.out 2
  have x3 := cellH HG3.out 3
  have x4 := cellH HG3.out 4
  have x5 := cellH HG3.out 5
  simp at x0 x1 x2 x3 x4 x5
  go_wp2_with fail
  refine (HC.out.vote _ _ _ _).mono ?_
  rintro e w4 ⟨rfl, hb⟩
  have HB4 := Lib.hid (below_step HB3.out hb)
  have HG4 := Lib.hid (later_at hb HG3.out)
  clear hb HB3 HG3 x0 x1 x2 x3 x4 x5
  have x0 := cellH HG4.out 0
  have x1 := cellH HG4.out 1
  have x2 := cellH HG4.out 2
  have x3 := cellH HG4.out 3
  have x4 := cellH HG4.out 4
  have x5 := cellH HG4.out 5
  simp at x0 x1 x2 x3 x4 x5
  go_wp2_with fail
  refine (HC.out.let_ _ _ _).mono ?_
  rintro e w5 ⟨rfl, hb⟩
  have HB5 := Lib.hid (below_step HB4.out hb)
  have HG5 := Lib.hid (later_at hb HG4.out)
  clear hb HB4 HG4 x0 x1 x2 x3 x4 x5
  have x0 := cellH HG5.out 0
  have x1 := cellH HG5.out 1
  have x2 := cellH HG5.out 2
  have x3 := cellH HG5.out 3
  have x4 := cellH HG5.out 4
  have x5 := cellH HG5.out 5
  simp at x0 x1 x2 x3 x4 x5
  go_upto_region 7 with fail
  dsimp only [List.append]
  go_wp2_with fail
  refine (HK.out _ (HV.out.later HB5.out)).mono ?_
  rintro e w6 ⟨rfl, hb⟩
  have HB6 := Lib.hid (below_step HB5.out hb)
  have HG6 := Lib.hid (later_at hb HG5.out)
  clear hb HB5 HG5 x0 x1 x2 x3 x4 x5
  have x0 := cellH HG6.out 0
  have x1 := cellH HG6.out 1
  have x2 := cellH HG6.out 2
  have x3 := cellH HG6.out 3
  have x4 := cellH HG6.out 4
  have x5 := cellH HG6.out 5
  simp at x0 x1 x2 x3 x4 x5
  go_wp2_with fail
  refine (HC.out.take _ _ _ _ _).mono ?_
  rintro e w7 ⟨rfl, hb⟩
  have HB7 := Lib.hid (below_step HB6.out hb)
  have HG7 := Lib.hid (later_at hb HG6.out)
  clear hb HB6 HG6 x0 x1 x2 x3 x4 x5
  have x0 := cellH HG7.out 0
  have x1 := cellH HG7.out 1
  have x2 := cellH HG7.out 2
  have x3 := cellH HG7.out 3
  have x4 := cellH HG7.out 4
  have x5 := cellH HG7.out 5
  simp at x0 x1 x2 x3 x4 x5
  go_wp2_with fail
  refine (HC.out.complete _ _ _ _).mono ?_
  rintro e w8 ⟨rfl, hb⟩
  have HB8 := Lib.hid (below_step HB7.out hb)
  have HG8 := Lib.hid (later_at hb HG7.out)
  clear hb HB7 HG7 x0 x1 x2 x3 x4 x5
  have x0 := cellH HG8.out 0
  have x1 := cellH HG8.out 1
  have x2 := cellH HG8.out 2
  have x3 := cellH HG8.out 3
  have x4 := cellH HG8.out 4
  have x5 := cellH HG8.out 5
  simp at x0 x1 x2 x3 x4 x5
  go_wp2_with fail
  refine (HC.out.miss _ _ _).mono ?_
  rintro e w9 ⟨rfl, hb⟩
  have HB9 := Lib.hid (below_step HB8.out hb)
  have HG9 := Lib.hid (later_at hb HG8.out)
  clear hb HB8 HG8 x0 x1 x2 x3 x4 x5
  have x0 := cellH HG9.out 0
  have x1 := cellH HG9.out 1
  have x2 := cellH HG9.out 2
  have x3 := cellH HG9.out 3
  have x4 := cellH HG9.out 4
  have x5 := cellH HG9.out 5
  simp at x0 x1 x2 x3 x4 x5
  go_wp2_with fail
  refine (HC.out.beat _ _ _).mono ?_
  rintro e w10 ⟨rfl, hb⟩
  have HB10 := Lib.hid (below_step HB9.out hb)
  have HG10 := Lib.hid (later_at hb HG9.out)
  clear hb HB9 HG9 x0 x1 x2 x3 x4 x5
  have x0 := cellH HG10.out 0
  have x1 := cellH HG10.out 1
  have x2 := cellH HG10.out 2
  have x3 := cellH HG10.out 3
  have x4 := cellH HG10.out 4
  have x5 := cellH HG10.out 5
  simp at x0 x1 x2 x3 x4 x5
  go_wp2_with fail
  refine (HC.out.cancel _).mono ?_
  rintro e w11 ⟨rfl, hb⟩
  have HB11 := Lib.hid (below_step HB10.out hb)
  have HG11 := Lib.hid (later_at hb HG10.out)
  clear hb HB10 HG10 x0 x1 x2 x3 x4 x5
  have x0 := cellH HG11.out 0
  have x1 := cellH HG11.out 1
  have x2 := cellH HG11.out 2
  have x3 := cellH HG11.out 3
  have x4 := cellH HG11.out 4
  have x5 := cellH HG11.out 5
  simp at x0 x1 x2 x3 x4 x5
  go_wp2_with fail
  refine (HC.out.status _).mono ?_
  rintro e w12 ⟨rfl, hb⟩
  have HB12 := Lib.hid (below_step HB11.out hb)
  have HG12 := Lib.hid (later_at hb HG11.out)
  clear hb HB11 HG11 x0 x1 x2 x3 x4 x5
  have x0 := cellH HG12.out 0
  have x1 := cellH HG12.out 1
  have x2 := cellH HG12.out 2
  have x3 := cellH HG12.out 3
  have x4 := cellH HG12.out 4
  have x5 := cellH HG12.out 5
  simp at x0 x1 x2 x3 x4 x5
  go_wp2_with fail
  refine (HC.out.input _ _).mono ?_
  rintro e w13 ⟨rfl, hb⟩
  have HB13 := Lib.hid (below_step HB12.out hb)
  have HG13 := Lib.hid (later_at hb HG12.out)
  clear hb HB12 HG12 x0 x1 x2 x3 x4 x5
  have x0 := cellH HG13.out 0
  have x1 := cellH HG13.out 1
  have x2 := cellH HG13.out 2
  have x3 := cellH HG13.out 3
  have x4 := cellH HG13.out 4
  have x5 := cellH HG13.out 5
  simp at x0 x1 x2 x3 x4 x5
  go_wp2_with fail
  refine (HC.out.state _ _).mono ?_
  rintro e w14 ⟨rfl, hb⟩
  have HB14 := Lib.hid (below_step HB13.out hb)
  have HG14 := Lib.hid (later_at hb HG13.out)
  clear hb HB13 HG13 x0 x1 x2 x3 x4 x5
  have x0 := cellH HG14.out 0
  have x1 := cellH HG14.out 1
  have x2 := cellH HG14.out 2
  have x3 := cellH HG14.out 3
  have x4 := cellH HG14.out 4
  have x5 := cellH HG14.out 5
  simp at x0 x1 x2 x3 x4 x5
  go_wp2_with fail
  refine (HC.out.copy _).mono ?_
  rintro e w15 ⟨rfl, hb⟩
  have HB15 := Lib.hid (below_step HB14.out hb)
  have HG15 := Lib.hid (later_at hb HG14.out)
  clear hb HB14 HG14 x0 x1 x2 x3 x4 x5
  have x0 := cellH HG15.out 0
  have x1 := cellH HG15.out 1
  have x2 := cellH HG15.out 2
  have x3 := cellH HG15.out 3
  have x4 := cellH HG15.out 4
  have x5 := cellH HG15.out 5
  simp at x0 x1 x2 x3 x4 x5
  go_wp2_with fail
  refine (rtext_no HC.out (HV.out.later HB15.out)).mono ?_
  rintro e w16 ⟨rfl, hb⟩
  have HB16 := Lib.hid (below_step HB15.out hb)
  have HG16 := Lib.hid (later_at hb HG15.out)
  clear hb HB15 HG15 x0 x1 x2 x3 x4 x5
  have x0 := cellH HG16.out 0
  have x1 := cellH HG16.out 1
  have x2 := cellH HG16.out 2
  have x3 := cellH HG16.out 3
  have x4 := cellH HG16.out 4
  have x5 := cellH HG16.out 5
  simp at x0 x1 x2 x3 x4 x5
  have hf : ∀ W : World, (Instr.field 24 (.agg #[.string .empty, .slice none 0 0]) 1).run Tryz.prog W = .ok (.slice none 0 0) W := fun W => by kernel_rfl
  go_wp2_with fail
  refine (HC.out.pipe _).mono ?_
  rintro e w17 ⟨rfl, hb⟩
  have HB17 := Lib.hid (below_step HB16.out hb)
  have HG17 := Lib.hid (later_at hb HG16.out)
  clear hb HB16 HG16 x0 x1 x2 x3 x4 x5
  have x0 := cellH HG17.out 0
  have x1 := cellH HG17.out 1
  have x2 := cellH HG17.out 2
  have x3 := cellH HG17.out 3
  have x4 := cellH HG17.out 4
  have x5 := cellH HG17.out 5
  simp at x0 x1 x2 x3 x4 x5
  go_wp2_with fail
  go_ret
  exact ⟨by first | rfl | simp, HB17.out⟩
end Go.Proofs.YtfjaibaidpbppaaGreatDoor
