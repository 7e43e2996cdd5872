/-
  The laws' first line for labels (awake): answers that the document fixes. No conditions.
-/
import Derived.Test.YtohonaifcpcnbaaLabelG
import Derived.Deep.RegionHeld3
namespace Go.Proofs.Ytohonaifcpcnbaa
open Go.RowKit

theorem below_step {w a b : World} (hB : Below w.heap.size w a) (hb : Below a.heap.size a b) : Below w.heap.size w b := hB.trans (hb.mono hB.size)

theorem cell_alloc {w : World} {a : Addr} {v : Value} {o : Obj} (h : w.cell? a = some v) : (w.alloc o).cell? a = some v := by
  rw [World.cell?_alloc_lt _ _ _ (World.block_lt_of_cell? _ _ h)]; exact h

theorem good_1 : GoodText ⟨#[50, 58, 48, 48, 48, 51]⟩ := ⟨by decide, by decide, by decide, by decide, fun i hi => by
  have : i = 0 ∨ i = 1 ∨ i = 2 ∨ i = 3 := by omega
  rcases this with rfl | rfl | rfl | rfl <;> decide⟩
theorem bad_1 : ¬ GoodText ⟨#[56, 58, 48, 48, 48, 48]⟩ := fun g => absurd g.2.2.2.1 (by decide)
theorem bad_2 : ¬ GoodText ⟨#[49, 58, 48, 48, 71, 48]⟩ := fun g => absurd (g.2.2.2.2 2 (by omega)) (by decide)

set_option maxHeartbeats 1000000 in
set_option maxRecDepth 100000 in
theorem awake_is (w : World) : Calls Try.prog 10 #[] w fun e w' => e = .returned (.bool true) ∧ Below w.heap.size w w' := by
  have m1 : mxI 2 1 = 2 := by decide
  have m2 : orS 1 2 = 3 := by decide
  have m3 : mnI 2 1 = 1 := by decide
  have m4 : andS 1 2 = 0 := by decide
  have s1 : sameB 2 3 2 3 = true := by decide
  have s2 : sameB 1 0 1 0 = true := by decide
  have s3 : sameB 5 2 5 2 = true := by decide
  have l1 : leqB 2 1 2 3 = true := by decide
  have l2 : leqB 2 3 2 1 = false := by decide
  have k1 : (!sameB 2 1 2 3 && leqB 2 1 2 3) = true := by decide
  have k2 : (!sameB 2 1 2 1 && leqB 2 1 2 1) = false := by decide
  have o1 : offL 5 1 = 5 := by decide
  have o2 : offS 3 1 = 2 := by decide
  have t1 : textOut 2 3 = ⟨#[50, 58, 48, 48, 48, 51]⟩ := by decide
  have t2 : textOut 8 0 = ⟨#[]⟩ := by decide
  have r1 : rightB 2 = true := by decide
  go_enter Try.func10, Try.ntmps10
  go_wp2_with fail
  refine (parse_good _ 2 3 good_1 (by decide) (by decide) _).mono ?_
  rintro e w1 ⟨rfl, hb1⟩
  have hB1 : Below w.heap.size w w1 := below_step (((Below.refl _ _).alloc (Nat.le_refl _) _).alloc (by simp) _) hb1
  have ca0 : w1.cell? ⟨w.heap.size, 0, none⟩ = some (.int .i64 2) := cell_later hb1 (by simp [go_sem])
  have ca1 : w1.cell? ⟨w.heap.size, 1, none⟩ = some (.int .u16 1) := cell_later hb1 (by simp [go_sem])
  have cb0 : w1.cell? ⟨w.heap.size + 1, 0, none⟩ = some (.int .i64 1) := cell_later hb1 (by simp [go_sem])
  have cb1 : w1.cell? ⟨w.heap.size + 1, 1, none⟩ = some (.int .u16 2) := cell_later hb1 (by simp [go_sem])
  clear hb1
  go_wp2_with fail
  refine (parse_bad _ bad_1 _).mono ?_
  rintro e w2 ⟨rfl, hb2⟩
  have hB2 : Below w.heap.size w w2 := below_step (hB1.alloc hB1.size _) hb2
  replace ca0 := cell_later hb2 (cell_alloc ca0)
  replace ca1 := cell_later hb2 (cell_alloc ca1)
  replace cb0 := cell_later hb2 (cell_alloc cb0)
  replace cb1 := cell_later hb2 (cell_alloc cb1)
  have cl0 : w2.cell? ⟨w1.heap.size, 0, none⟩ = some (.int .i64 2) := cell_later hb2 (by simp [go_sem])
  have cl1 : w2.cell? ⟨w1.heap.size, 1, none⟩ = some (.int .u16 3) := cell_later hb2 (by simp [go_sem])
  clear hb2 hB1
  go_wp2_with fail
  refine (parse_bad _ bad_2 _).mono ?_
  rintro e w3 ⟨rfl, hb3⟩
  have hB3 : Below w.heap.size w w3 := below_step (hB2.alloc hB2.size _) hb3
  replace ca0 := cell_later hb3 (cell_alloc ca0)
  replace ca1 := cell_later hb3 (cell_alloc ca1)
  replace cb0 := cell_later hb3 (cell_alloc cb0)
  replace cb1 := cell_later hb3 (cell_alloc cb1)
  replace cl0 := cell_later hb3 (cell_alloc cl0)
  replace cl1 := cell_later hb3 (cell_alloc cl1)
  clear hb3 hB2
  replace ca0 := cell_alloc (o := .cells #[.int .i64 0, .int .u16 0] 24) ca0
  replace ca1 := cell_alloc (o := .cells #[.int .i64 0, .int .u16 0] 24) ca1
  replace cb0 := cell_alloc (o := .cells #[.int .i64 0, .int .u16 0] 24) cb0
  replace cb1 := cell_alloc (o := .cells #[.int .i64 0, .int .u16 0] 24) cb1
  replace cl0 := cell_alloc (o := .cells #[.int .i64 0, .int .u16 0] 24) cl0
  replace cl1 := cell_alloc (o := .cells #[.int .i64 0, .int .u16 0] 24) cl1
  have hB : Below w.heap.size w (w3.alloc (.cells #[.int .i64 0, .int .u16 0] 24)) := hB3.alloc hB3.size _
  clear hB3
  go_wp2_with fail
  dsimp only [List.append]
  go_region_held3 (fun w' => w'.cell? ⟨w.heap.size, 0, none⟩ = some (.int .i64 2) ∧ w'.cell? ⟨w.heap.size, 1, none⟩ = some (.int .u16 1) ∧ w'.cell? ⟨w.heap.size + 1, 0, none⟩ = some (.int .i64 1) ∧ w'.cell? ⟨w.heap.size + 1, 1, none⟩ = some (.int .u16 2) ∧ w'.cell? ⟨w1.heap.size, 0, none⟩ = some (.int .i64 2) ∧ w'.cell? ⟨w1.heap.size, 1, none⟩ = some (.int .u16 3) ∧ Below w.heap.size w w')
    (first | exact ⟨ca0, ca1, cb0, cb1, cl0, cl1, hB.drew⟩ | (go_split_ands; exact ⟨cell_later hb (by with_reducible assumption), cell_later hb (by with_reducible assumption), cell_later hb (by with_reducible assumption), cell_later hb (by with_reducible assumption), cell_later hb (by with_reducible assumption), cell_later hb (by with_reducible assumption), below_step (by with_reducible assumption) hb⟩))
    (first
      | (go_at_call 12; refine (join_is _ _ _ _ _).mono ?_; rintro e wn ⟨rfl, hb⟩)
      | (go_at_call 14; refine (meet_is _ _ _ _ _).mono ?_; rintro e wn ⟨rfl, hb⟩)
      | (go_at_call 16; refine (leq_is _ _ _ _ _ rfl _).mono ?_; rintro e wn ⟨rfl, hb⟩)
      | (go_at_call 18; refine (less_is _ _ _ _ _ rfl _).mono ?_; rintro e wn ⟨rfl, hb⟩)
      | (go_at_call 19; refine (off_is _ _ _ _ _).mono ?_; rintro e wn ⟨rfl, hb⟩)
      | (go_at_call 21; refine (over_is _ _ _ _ _ rfl _).mono ?_; rintro e wn ⟨rfl, hb⟩)
      | (go_at_call 11; refine (right_is _ _ _ rfl _).mono ?_; rintro e wn ⟨rfl, hb⟩)
      | (go_at_call 22; refine (text_any _ _ (by omega) (by omega) _).mono ?_; rintro e wn ⟨rfl, hb⟩))
  go_split_ands
  go_wp2_with fail
  go_ret
  exact ⟨rfl, by with_reducible assumption⟩

end Go.Proofs.Ytohonaifcpcnbaa
