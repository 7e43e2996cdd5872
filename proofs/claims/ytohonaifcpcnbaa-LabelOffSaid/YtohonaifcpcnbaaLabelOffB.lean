/-
  The law LabelOff, walked, where all three labels may be: it answers true, and leaves all memory that was there as it was. Condition: each Set is a number from 0 to 65535.
-/
import Derived.Test.YtohonaifcpcnbaaLabelOffA
namespace Go.Proofs.Ytohonaifcpcnbaa
open Go.RowKit

set_option maxHeartbeats 2000000 in
set_option maxRecDepth 100000 in
theorem labelOff_over (l s m t n u : Int) (w : World) (ra : rightB l = true) (rb : rightB m = true) (rc : rightB n = true) (hs : SetN s) (ht : SetN t) (hu : SetN u) (hov : leqB (offL l m) (offS s t) n u = true) :
    Calls Try.prog 6 #[.agg #[.int .i64 l, .int .u16 s], .agg #[.int .i64 m, .int .u16 t], .agg #[.int .i64 n, .int .u16 u]] w fun e w' => e = .returned (.bool true) ∧ Below w.heap.size w w' := by
  have hB : Below w.heap.size w (((w.alloc (.cells #[.int .i64 l, .int .u16 s] 24)).alloc (.cells #[.int .i64 m, .int .u16 t] 24)).alloc (.cells #[.int .i64 n, .int .u16 u] 24)) := (((Below.refl _ _).alloc (Nat.le_refl _) _).alloc (by simp) _).alloc (by simp; omega) _
  have o1 := off_zero (l := l) (s := s) (t := t) (rightB_iff.1 rb).1
  have o2 := off_leq (l := l) (m := m) (rightB_iff.1 ra).1 hs ht
  have o3 := off_over hs ht hu hov
  have hq : (leqB l s m t == leqB l s m t) = true := by simp
  clear hs ht hu
  go_enter Try.func6, Try.ntmps6
  go_wp2_with fail
  refine (refright_is _ _ _ ra _).mono ?_
  rintro e w1 ⟨rfl, b1⟩
  have ca0 : w1.cell? ⟨w.heap.size, 0, none⟩ = some (.int .i64 l) := cell_later b1 (by simp [go_sem])
  have ca1 : w1.cell? ⟨w.heap.size, 1, none⟩ = some (.int .u16 s) := cell_later b1 (by simp [go_sem])
  have cb0 : w1.cell? ⟨w.heap.size + 1, 0, none⟩ = some (.int .i64 m) := cell_later b1 (by simp [go_sem])
  have cb1 : w1.cell? ⟨w.heap.size + 1, 1, none⟩ = some (.int .u16 t) := cell_later b1 (by simp [go_sem])
  have cc0 : w1.cell? ⟨w.heap.size + 1 + 1, 0, none⟩ = some (.int .i64 n) := cell_later b1 (by simp [go_sem])
  have cc1 : w1.cell? ⟨w.heap.size + 1 + 1, 1, none⟩ = some (.int .u16 u) := cell_later b1 (by simp [go_sem])
  replace hB := below_step hB b1
  clear b1
  go_wp2_with fail
  refine (refright_is _ _ _ rb _).mono ?_
  rintro e w2 ⟨rfl, b⟩
  replace ca0 := cell_later b ca0
  replace ca1 := cell_later b ca1
  replace cb0 := cell_later b cb0
  replace cb1 := cell_later b cb1
  replace cc0 := cell_later b cc0
  replace cc1 := cell_later b cc1
  replace hB := below_step hB b
  clear b
  go_wp2_with fail
  refine (refright_is _ _ _ rc _).mono ?_
  rintro e w3 ⟨rfl, b⟩
  replace ca0 := cell_later b ca0
  replace ca1 := cell_later b ca1
  replace cb0 := cell_later b cb0
  replace cb1 := cell_later b cb1
  replace cc0 := cell_later b cc0
  replace cc1 := cell_later b cc1
  replace hB := below_step hB b
  clear b
  go_wp2_with fail
  refine (off_is _ _ _ _ _).mono ?_
  rintro e w4 ⟨rfl, b⟩
  replace ca0 := cell_later b ca0
  replace ca1 := cell_later b ca1
  replace cb0 := cell_later b cb0
  replace cb1 := cell_later b cb1
  replace cc0 := cell_later b cc0
  replace cc1 := cell_later b cc1
  replace hB := below_step hB b
  clear b
  have cd0 : (w4.alloc (.cells #[.int .i64 (offL l m), .int .u16 (offS s t)] 24)).cell? ⟨w4.heap.size, 0, none⟩ = some (.int .i64 (offL l m)) := by simp [go_sem]
  have cd1 : (w4.alloc (.cells #[.int .i64 (offL l m), .int .u16 (offS s t)] 24)).cell? ⟨w4.heap.size, 1, none⟩ = some (.int .u16 (offS s t)) := by simp [go_sem]
  replace hB := hB.alloc hB.size (.cells #[.int .i64 (offL l m), .int .u16 (offS s t)] 24)
  replace ca0 := cell_alloc (o := .cells #[.int .i64 (offL l m), .int .u16 (offS s t)] 24) ca0
  replace ca1 := cell_alloc (o := .cells #[.int .i64 (offL l m), .int .u16 (offS s t)] 24) ca1
  replace cb0 := cell_alloc (o := .cells #[.int .i64 (offL l m), .int .u16 (offS s t)] 24) cb0
  replace cb1 := cell_alloc (o := .cells #[.int .i64 (offL l m), .int .u16 (offS s t)] 24) cb1
  replace cc0 := cell_alloc (o := .cells #[.int .i64 (offL l m), .int .u16 (offS s t)] 24) cc0
  replace cc1 := cell_alloc (o := .cells #[.int .i64 (offL l m), .int .u16 (offS s t)] 24) cc1
  go_wp2_with fail
  go_region_held3 (fun w' => w'.cell? ⟨w.heap.size, 0, none⟩ = some (.int .i64 l) ∧ w'.cell? ⟨w.heap.size, 1, none⟩ = some (.int .u16 s) ∧ w'.cell? ⟨w.heap.size + 1, 0, none⟩ = some (.int .i64 m) ∧ w'.cell? ⟨w.heap.size + 1, 1, none⟩ = some (.int .u16 t) ∧ w'.cell? ⟨w.heap.size + 1 + 1, 0, none⟩ = some (.int .i64 n) ∧ w'.cell? ⟨w.heap.size + 1 + 1, 1, none⟩ = some (.int .u16 u) ∧ w'.cell? ⟨w4.heap.size, 0, none⟩ = some (.int .i64 (offL l m)) ∧ w'.cell? ⟨w4.heap.size, 1, none⟩ = some (.int .u16 (offS s t)) ∧ Below w.heap.size w w')
    (first | exact ⟨ca0, ca1, cb0, cb1, cc0, cc1, cd0, cd1, hB.drew⟩ | (go_split_ands; exact ⟨cell_later hb (by with_reducible assumption), cell_later hb (by with_reducible assumption), cell_later hb (by with_reducible assumption), cell_later hb (by with_reducible assumption), cell_later hb (by with_reducible assumption), cell_later hb (by with_reducible assumption), cell_later hb (by with_reducible assumption), cell_later hb (by with_reducible assumption), below_step (by with_reducible assumption) hb⟩))
    (first
      | (go_at_call 10; refine (awake_is _).mono ?_; rintro e wn ⟨rfl, hb⟩)
      | (go_at_call 12; refine (join_is _ _ _ _ _).mono ?_; rintro e wn ⟨rfl, hb⟩)
      | (go_at_call 16; refine (leq_is _ _ _ _ _ rfl _).mono ?_; rintro e wn ⟨rfl, hb⟩)
      | (go_at_call 21; refine (over_is _ _ _ _ _ rfl _).mono ?_; rintro e wn ⟨rfl, hb⟩))
  go_split_ands
  go_wp2_with fail
  go_ret
  exact ⟨rfl, by with_reducible assumption⟩

end Go.Proofs.Ytohonaifcpcnbaa
