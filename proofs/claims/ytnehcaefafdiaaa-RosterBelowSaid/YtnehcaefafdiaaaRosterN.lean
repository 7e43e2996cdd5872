/-
  The laws' first line for rosters (awake): answers that the document fixes. No conditions.
-/
import Derived.Test.YtnehcaefafdiaaaRosterM
import Derived.WalkKit
namespace Go.Proofs.Ytnehcaefafdiaaa
open Go.RowKit

set_option maxHeartbeats 2000000 in
set_option maxRecDepth 100000 in
theorem awake_is (w : World) : Calls Try.prog 7 #[] w fun e w' => e = .returned (.bool true) ∧ Below w.heap.size w w' := by
  go_enter Try.func7, Try.ntmps7
  go_wp2_with fail
  have hl1 : LabsAt ((((w.alloc (.cells #[.int .i64 0, .int .u16 0] 26)).alloc (.cells #[.int .i64 3, .int .u16 1] 26)).alloc (.cells #[.int .i64 0, .int .u16 0, .int .i64 3, .int .u16 1] 26)).alloc (.cells #[.int .i64 1, .int .i64 3, .int .u16 1, .int .i64 0, .int .i64 0, .int .u16 0, .int .i64 1, .int .i64 0, .int .u16 0] 35)) (some ⟨w.heap.size + 1 + 1, 0, none⟩) 2 awLv awSt := by simpa using (labs_new (w := (w.alloc (.cells #[.int .i64 0, .int .u16 0] 26)).alloc (.cells #[.int .i64 3, .int .u16 1] 26)) (t := 26) aw_c1).alloc (.cells #[.int .i64 1, .int .i64 3, .int .u16 1, .int .i64 0, .int .i64 0, .int .u16 0, .int .i64 1, .int .i64 0, .int .u16 0] 35)
  have hp1 : PepsAt ((((w.alloc (.cells #[.int .i64 0, .int .u16 0] 26)).alloc (.cells #[.int .i64 3, .int .u16 1] 26)).alloc (.cells #[.int .i64 0, .int .u16 0, .int .i64 3, .int .u16 1] 26)).alloc (.cells #[.int .i64 1, .int .i64 3, .int .u16 1, .int .i64 0, .int .i64 0, .int .u16 0, .int .i64 1, .int .i64 0, .int .u16 0] 35)) (some ⟨w.heap.size + 1 + 1 + 1, 0, none⟩) 3 awPt awAl awAu := by simpa using (peps_new (w := ((w.alloc (.cells #[.int .i64 0, .int .u16 0] 26)).alloc (.cells #[.int .i64 3, .int .u16 1] 26)).alloc (.cells #[.int .i64 0, .int .u16 0, .int .i64 3, .int .u16 1] 26)) (t := 35) aw_c2)
  refine (aw_new hl1 hp1 (Nat.le_refl _) (by simp) (by simp)).mono ?_
  clear hl1 hp1
  rintro e w1 ⟨⟨R, rfl, hr⟩, hb1⟩
  have hB : Below w.heap.size w w1 := below_step (((((Below.refl _ _).alloc (Nat.le_refl _) _).alloc (by simp) _).alloc (by simp; omega) _).alloc (by simp; omega) _) hb1
  have a0 : w1.cell? ⟨w.heap.size, 0, none⟩ = some (.int .i64 0) := cell_later hb1 (by simp [go_sem])
  have a1 : w1.cell? ⟨w.heap.size, 1, none⟩ = some (.int .u16 0) := cell_later hb1 (by simp [go_sem])
  have b0 : w1.cell? ⟨w.heap.size + 1, 0, none⟩ = some (.int .i64 3) := cell_later hb1 (by simp [go_sem])
  have b1 : w1.cell? ⟨w.heap.size + 1, 1, none⟩ = some (.int .u16 1) := cell_later hb1 (by simp [go_sem])
  clear hb1
  go_wp2_with fail
  refine aw_new2.mono ?_
  rintro e w2 ⟨rfl, hb2⟩
  replace hr := hr.later hb2
  replace hB := below_step hB hb2
  replace a0 := cell_later hb2 a0
  replace a1 := cell_later hb2 a1
  replace b0 := cell_later hb2 b0
  replace b1 := cell_later hb2 b1
  clear hb2
  go_wp2_with fail
  have hl3 : LabsAt (w2.alloc (.cells #[.int .i64 0, .int .u16 0, .int .i64 0, .int .u16 0] 26)) (some ⟨w2.heap.size, 0, none⟩) 2 zeroF zeroF := labs_new aw_c3
  refine (aw_new3 hl3 (Nat.le_refl _)).mono ?_
  clear hl3
  rintro e w3 ⟨rfl, hb3⟩
  replace hr := (hr.alloc _).later hb3
  replace hB := below_step (hB.alloc hB.size _) hb3
  replace a0 := cell_later hb3 (cell_alloc a0)
  replace a1 := cell_later hb3 (cell_alloc a1)
  replace b0 := cell_later hb3 (cell_alloc b0)
  replace b1 := cell_later hb3 (cell_alloc b1)
  clear hb3
  go_wp2_with fail
  have hl4 : LabsAt ((w3.alloc (.cells #[.int .i64 0, .int .u16 0] 26)).alloc (.cells #[.int .i64 1, .int .i64 0, .int .u16 0] 35)) (some ⟨w3.heap.size, 0, none⟩) 1 zeroF zeroF := (labs_new aw_c4).alloc _
  have hp4 : PepsAt ((w3.alloc (.cells #[.int .i64 0, .int .u16 0] 26)).alloc (.cells #[.int .i64 1, .int .i64 0, .int .u16 0] 35)) (some ⟨w3.heap.size + 1, 0, none⟩) 1 oneF zeroF zeroF := by simpa using (peps_new (w := w3.alloc (.cells #[.int .i64 0, .int .u16 0] 26)) (t := 35) aw_c5)
  refine (aw_new4 hl4 hp4 (Nat.le_refl _)).mono ?_
  clear hl4 hp4
  rintro e w4 ⟨rfl, hb4⟩
  replace hr := ((hr.alloc _).alloc _).later hb4
  replace hB := below_step ((hB.alloc hB.size _).alloc (Nat.le_trans hB.size (by simp)) _) hb4
  replace a0 := cell_later hb4 (cell_alloc (cell_alloc a0))
  replace a1 := cell_later hb4 (cell_alloc (cell_alloc a1))
  replace b0 := cell_later hb4 (cell_alloc (cell_alloc b0))
  replace b1 := cell_later hb4 (cell_alloc (cell_alloc b1))
  clear hb4
  have HR := Lib.hid hr
  clear hr
  go_wp2_with fail
  have hlab := label_is HR.out 1
  rw [show labV 2 awLv 1 = 3 by decide, show labV 2 awSt 1 = 1 by decide, show thereB 1 (2 : Nat) = true by decide] at hlab
  refine hlab.mono ?_
  clear hlab
  rintro e w5 ⟨rfl, hb5⟩
  replace hB := below_step hB hb5
  replace hB := hB.alloc hB.size (.cells #[.int .i64 3, .int .u16 1] 26)
  have HR2 := Lib.hid ((HR.out.later hb5).alloc (.cells #[.int .i64 3, .int .u16 1] 26))
  replace a0 := cell_alloc (o := .cells #[.int .i64 3, .int .u16 1] 26) (cell_later hb5 a0)
  replace a1 := cell_alloc (o := .cells #[.int .i64 3, .int .u16 1] 26) (cell_later hb5 a1)
  replace b0 := cell_alloc (o := .cells #[.int .i64 3, .int .u16 1] 26) (cell_later hb5 b0)
  replace b1 := cell_alloc (o := .cells #[.int .i64 3, .int .u16 1] 26) (cell_later hb5 b1)
  have l0 : (w5.alloc (.cells #[.int .i64 3, .int .u16 1] 26)).cell? ⟨w5.heap.size, 0, none⟩ = some (.int .i64 3) := by simp [go_sem]
  have l1 : (w5.alloc (.cells #[.int .i64 3, .int .u16 1] 26)).cell? ⟨w5.heap.size, 1, none⟩ = some (.int .u16 1) := by simp [go_sem]
  clear hb5 HR
  have p1 : partV 3 awPt 0 = 1 := by decide
  have p2 : partV 3 awPt 3 = -1 := by decide
  have s1 : seesB 2 3 awLv awSt awPt 0 0 = true := by decide
  have s2 : seesB 2 3 awLv awSt awPt 1 1 = false := by decide
  have m1 : mayB 2 3 awLv awSt awPt awAl awAu 0 0 0 = true := by decide
  have m2 : mayB 2 3 awLv awSt awPt awAl awAu 2 0 0 = false := by decide
  have m3 : mayB 2 3 awLv awSt awPt awAl awAu 1 3 1 = true := by decide
  have f1 : firstN (fun i => sameB 3 1 (awLv i) (awSt i)) 2 = 1 := by decide
  have f2 : firstN (fun i => sameB 1 0 (awLv i) (awSt i)) 2 = -1 := by decide
  have sm : sameB 3 1 3 1 = true := by decide
  have hr := HR2.out
  clear HR2
  go_wp2_with (first
    | (go_at_call 10; refine (parts_is hr).mono ?_; rintro e wm ⟨rfl, rfl⟩)
    | (go_at_call 11; refine (people_is hr).mono ?_; rintro e wm ⟨rfl, rfl⟩)
    | (go_at_call 13; refine (part_is hr _).mono ?_; rintro e wm ⟨rfl, rfl⟩)
    | (go_at_call 14; refine (sees_is hr _ _).mono ?_; rintro e wn ⟨rfl, hb⟩; replace hB := below_step hB hb; replace hr := hr.later hb; replace a0 := cell_later hb a0; replace a1 := cell_later hb a1; replace b0 := cell_later hb b0; replace b1 := cell_later hb b1; replace l0 := cell_later hb l0; replace l1 := cell_later hb l1; clear hb)
    | (go_at_call 16; refine (may_is hr _ _ _).mono ?_; rintro e wn ⟨rfl, hb⟩; replace hB := below_step hB hb; replace hr := hr.later hb; replace a0 := cell_later hb a0; replace a1 := cell_later hb a1; replace b0 := cell_later hb b0; replace b1 := cell_later hb b1; replace l0 := cell_later hb l0; replace l1 := cell_later hb l1; clear hb)
    | (go_at_call 18; refine (find_is hr _ _).mono ?_; rintro e wn ⟨rfl, hb⟩; replace hB := below_step hB hb; replace hr := hr.later hb; replace a0 := cell_later hb a0; replace a1 := cell_later hb a1; replace b0 := cell_later hb b0; replace b1 := cell_later hb b1; replace l0 := cell_later hb l0; replace l1 := cell_later hb l1; clear hb)
    | (go_at_call 21; refine (aw_below hr).mono ?_; rintro e wn ⟨A9, c9, rfl, hints, hb⟩; replace hB := below_step hB hb; replace hr := hr.later hb; replace a0 := cell_later hb a0; replace a1 := cell_later hb a1; replace b0 := cell_later hb b0; replace b1 := cell_later hb b1; replace l0 := cell_later hb l0; replace l1 := cell_later hb l1; clear hb)
    | (go_at_call 20; refine (aw_same (hints.alloc _) (ints_new aw_c6)).mono ?_; rintro e wn ⟨rfl, hb⟩; replace hB := below_step (hB.alloc hB.size _) hb; clear hb))
  go_ret
  exact ⟨rfl, hB⟩

end Go.Proofs.Ytnehcaefafdiaaa
