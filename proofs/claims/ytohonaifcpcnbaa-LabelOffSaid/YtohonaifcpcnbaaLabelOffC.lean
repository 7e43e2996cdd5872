/-
  The law LabelOff, walked, where all three labels may be: it answers true, and leaves all memory that was there as it was. Condition: each Set is a number from 0 to 65535.
-/
import Derived.Test.YtohonaifcpcnbaaLabelOffA
import Derived.Test.YtohonaifcpcnbaaRegion
namespace Go.Proofs.Ytohonaifcpcnbaa
open Go.RowKit

set_option maxHeartbeats 2000000 in
set_option maxRecDepth 100000 in
theorem labelOff_notover (l s m t n u : Int) (w : World) (ra : rightB l = true) (rb : rightB m = true) (rc : rightB n = true) (hs : SetN s) (ht : SetN t) (hov : leqB (offL l m) (offS s t) n u = false) :
    Calls Try.prog 6 #[.agg #[.int .i64 l, .int .u16 s], .agg #[.int .i64 m, .int .u16 t], .agg #[.int .i64 n, .int .u16 u]] w fun e w' => e = .returned (.bool true) ∧ Below w.heap.size w w' := by
  have hB : Below w.heap.size w (((w.alloc (.cells #[.int .i64 l, .int .u16 s] 24)).alloc (.cells #[.int .i64 m, .int .u16 t] 24)).alloc (.cells #[.int .i64 n, .int .u16 u] 24)) := (((Below.refl _ _).alloc (Nat.le_refl _) _).alloc (by simp) _).alloc (by simp; omega) _
  have o1 := off_zero (l := l) (s := s) (t := t) (rightB_iff.1 rb).1
  have o2 := off_leq (l := l) (m := m) (rightB_iff.1 ra).1 hs ht
  have hq : (leqB l s m t == leqB l s m t) = true := by simp
  clear hs ht
  go_enter Try.func6, Try.ntmps6
  go_wp2_with fail
  refine (refright_is _ _ _ ra _).mono ?_
  rintro e w1 ⟨rfl, b1⟩
  have ca0 : w1.cell? ⟨w.heap.size, 0, none⟩ = some (.int .i64 l) := cell_later b1 (by simp [go_sem])
  have ca1 : w1.cell? ⟨w.heap.size, 1, none⟩ = some (.int .u16 s) := cell_later b1 (by simp [go_sem])
  have cb0 : w1.cell? ⟨w.heap.size + 1, 0, none⟩ = some (.int .i64 m) := cell_later b1 (by simp [go_sem])
  have cb1 : w1.cell? ⟨w.heap.size + 1, 1, none⟩ = some (.int .u16 t) := cell_later b1 (by simp [go_sem])
  have cc0 : w1.cell? ⟨w.heap.size + 1 + 1, 0, none⟩ = some (.int .i64 n) := cell_later b1 (by simp [go_sem])
  have cc1 : w1.cell? ⟨w.heap.size + 1 + 1, 1, none⟩ = some (.int .u16 u) := cell_later b1 (by simp [go_sem])
  replace hB := below_step hB b1
  clear b1
  go_wp2_with fail
  refine (refright_is _ _ _ rb _).mono ?_
  rintro e w2 ⟨rfl, b⟩
  replace ca0 := cell_later b ca0
  replace ca1 := cell_later b ca1
  replace cb0 := cell_later b cb0
  replace cb1 := cell_later b cb1
  replace cc0 := cell_later b cc0
  replace cc1 := cell_later b cc1
  replace hB := below_step hB b
  clear b
  go_wp2_with fail
  refine (refright_is _ _ _ rc _).mono ?_
  rintro e w3 ⟨rfl, b⟩
  replace ca0 := cell_later b ca0
  replace ca1 := cell_later b ca1
  replace cb0 := cell_later b cb0
  replace cb1 := cell_later b cb1
  replace cc0 := cell_later b cc0
  replace cc1 := cell_later b cc1
  replace hB := below_step hB b
  clear b
  go_wp2_with fail
  refine (off_is _ _ _ _ _).mono ?_
  rintro e w4 ⟨rfl, b⟩
  replace ca0 := cell_later b ca0
  replace ca1 := cell_later b ca1
  replace cb0 := cell_later b cb0
  replace cb1 := cell_later b cb1
  replace cc0 := cell_later b cc0
  replace cc1 := cell_later b cc1
  replace hB := below_step hB b
  clear b
  have cd0 : (w4.alloc (.cells #[.int .i64 (offL l m), .int .u16 (offS s t)] 24)).cell? ⟨w4.heap.size, 0, none⟩ = some (.int .i64 (offL l m)) := by simp [go_sem]
  have cd1 : (w4.alloc (.cells #[.int .i64 (offL l m), .int .u16 (offS s t)] 24)).cell? ⟨w4.heap.size, 1, none⟩ = some (.int .u16 (offS s t)) := by simp [go_sem]
  replace hB := hB.alloc hB.size (.cells #[.int .i64 (offL l m), .int .u16 (offS s t)] 24)
  replace ca0 := cell_alloc (o := .cells #[.int .i64 (offL l m), .int .u16 (offS s t)] 24) ca0
  replace ca1 := cell_alloc (o := .cells #[.int .i64 (offL l m), .int .u16 (offS s t)] 24) ca1
  replace cb0 := cell_alloc (o := .cells #[.int .i64 (offL l m), .int .u16 (offS s t)] 24) cb0
  replace cb1 := cell_alloc (o := .cells #[.int .i64 (offL l m), .int .u16 (offS s t)] 24) cb1
  replace cc0 := cell_alloc (o := .cells #[.int .i64 (offL l m), .int .u16 (offS s t)] 24) cc0
  replace cc1 := cell_alloc (o := .cells #[.int .i64 (offL l m), .int .u16 (offS s t)] 24) cc1
  go_wp2_with fail
  refine wp_region_noPanic ?_
  refine wp_region_held_drew (S := (fun w' => w'.cell? ⟨w.heap.size, 0, none⟩ = some (.int .i64 l) ∧ w'.cell? ⟨w.heap.size, 1, none⟩ = some (.int .u16 s) ∧ w'.cell? ⟨w.heap.size + 1, 0, none⟩ = some (.int .i64 m) ∧ w'.cell? ⟨w.heap.size + 1, 1, none⟩ = some (.int .u16 t) ∧ w'.cell? ⟨w.heap.size + 1 + 1, 0, none⟩ = some (.int .i64 n) ∧ w'.cell? ⟨w.heap.size + 1 + 1, 1, none⟩ = some (.int .u16 u) ∧ w'.cell? ⟨w4.heap.size, 0, none⟩ = some (.int .i64 (offL l m)) ∧ w'.cell? ⟨w4.heap.size, 1, none⟩ = some (.int .u16 (offS s t)) ∧ Below w.heap.size w w')) (by kernel_rfl) ⟨ca0, ca1, cb0, cb1, cc0, cc1, cd0, cd1, hB.drew⟩ (fun hHeld => ?_)
  refine wpAnyH_ready (rs := [0]) (by kernel_rfl) (by simp) ?_
  refine AllReadyH.cons rfl (fun K hK => ?_) AllReadyH.nil
  go_simp
  refine (awake_is _).mono ?_
  rintro e wn ⟨rfl, hb⟩
  go_wp2_with fail
  refine hK.out _ _ ⟨cell_later hb hHeld.1, cell_later hb hHeld.2.1, cell_later hb hHeld.2.2.1, cell_later hb hHeld.2.2.2.1, cell_later hb hHeld.2.2.2.2.1, cell_later hb hHeld.2.2.2.2.2.1, cell_later hb hHeld.2.2.2.2.2.2.1, cell_later hb hHeld.2.2.2.2.2.2.2.1, below_step hHeld.2.2.2.2.2.2.2.2 hb⟩ (fun hHeldN => ?_)
  clear hK K hHeld hb
  have hHeld := hHeldN
  clear hHeldN
  (try simp only [Act.put, List.setIfInBounds_toArray, List.set_cons_zero, List.set_cons_succ])
  refine take_yes 1 26 (v := ?_) rfl rfl (by kernel_rfl) (by kernel_rfl) (by kernel_rfl) noPanic_any (by rfl) hHeld ?_ ?_
  rotate_left
  · intro wx hSw; (try dsimp only at hSw); go_simp <;> with_reducible rfl
  simp only [Act.put, List.setIfInBounds_toArray, List.set_cons_zero, List.set_cons_succ]
  refine take_yes 2 27 (v := ?_) rfl rfl (by kernel_rfl) (by kernel_rfl) (by kernel_rfl) noPanic_any (by rfl) hHeld ?_ ?_
  rotate_left
  · intro wx hSw; (try dsimp only at hSw); go_simp <;> with_reducible rfl
  simp only [Act.put, List.setIfInBounds_toArray, List.set_cons_zero, List.set_cons_succ]
  refine take_yes 3 28 (v := ?_) rfl rfl (by kernel_rfl) (by kernel_rfl) (by kernel_rfl) noPanic_any (by rfl) hHeld ?_ ?_
  rotate_left
  · intro wx hSw; (try dsimp only at hSw); go_simp <;> with_reducible rfl
  simp only [Act.put, List.setIfInBounds_toArray, List.set_cons_zero, List.set_cons_succ]
  refine take_yes 4 29 (v := ?_) rfl rfl (by kernel_rfl) (by kernel_rfl) (by kernel_rfl) noPanic_any (by rfl) hHeld ?_ ?_
  rotate_left
  · intro wx hSw; (try dsimp only at hSw); go_simp <;> with_reducible rfl
  simp only [Act.put, List.setIfInBounds_toArray, List.set_cons_zero, List.set_cons_succ]
  refine take_yes 5 30 (v := ?_) rfl rfl (by kernel_rfl) (by kernel_rfl) (by kernel_rfl) noPanic_any (by rfl) hHeld ?_ ?_
  rotate_left
  · intro wx hSw; (try dsimp only at hSw); go_simp <;> with_reducible rfl
  simp only [Act.put, List.setIfInBounds_toArray, List.set_cons_zero, List.set_cons_succ]
  refine take_yes 6 31 (v := ?_) rfl rfl (by kernel_rfl) (by kernel_rfl) (by kernel_rfl) noPanic_any (by rfl) hHeld ?_ ?_
  rotate_left
  · intro wx hSw; (try dsimp only at hSw); go_simp <;> with_reducible rfl
  simp only [Act.put, List.setIfInBounds_toArray, List.set_cons_zero, List.set_cons_succ]
  refine wpAnyH_ready (rs := [7]) (by kernel_rfl) (by simp) ?_
  refine AllReadyH.cons rfl (fun K hK => ?_) AllReadyH.nil
  go_simp
  refine (leq_is _ _ _ _ _ rfl _).mono ?_
  rintro e wn ⟨rfl, hb⟩
  go_wp2_with fail
  refine hK.out _ _ ⟨cell_later hb hHeld.1, cell_later hb hHeld.2.1, cell_later hb hHeld.2.2.1, cell_later hb hHeld.2.2.2.1, cell_later hb hHeld.2.2.2.2.1, cell_later hb hHeld.2.2.2.2.2.1, cell_later hb hHeld.2.2.2.2.2.2.1, cell_later hb hHeld.2.2.2.2.2.2.2.1, below_step hHeld.2.2.2.2.2.2.2.2 hb⟩ (fun hHeldN => ?_)
  clear hK K hHeld hb
  have hHeld := hHeldN
  clear hHeldN
  (try simp only [Act.put, List.setIfInBounds_toArray, List.set_cons_zero, List.set_cons_succ])
  refine take_yes 8 33 (v := ?_) rfl rfl (by kernel_rfl) (by kernel_rfl) (by kernel_rfl) noPanic_any (by rfl) hHeld ?_ ?_
  rotate_left
  · intro wx hSw; (try dsimp only at hSw); go_simp <;> with_reducible rfl
  simp only [Act.put, List.setIfInBounds_toArray, List.set_cons_zero, List.set_cons_succ]
  refine take_yes 9 34 (v := ?_) rfl rfl (by kernel_rfl) (by kernel_rfl) (by kernel_rfl) noPanic_any (by rfl) hHeld ?_ ?_
  rotate_left
  · intro wx hSw; (try dsimp only at hSw); go_simp <;> with_reducible rfl
  simp only [Act.put, List.setIfInBounds_toArray, List.set_cons_zero, List.set_cons_succ]
  refine take_yes 10 35 (v := ?_) rfl rfl (by kernel_rfl) (by kernel_rfl) (by kernel_rfl) noPanic_any (by rfl) hHeld ?_ ?_
  rotate_left
  · intro wx hSw; (try dsimp only at hSw); go_simp <;> with_reducible rfl
  simp only [Act.put, List.setIfInBounds_toArray, List.set_cons_zero, List.set_cons_succ]
  refine take_yes 11 36 (v := ?_) rfl rfl (by kernel_rfl) (by kernel_rfl) (by kernel_rfl) noPanic_any (by rfl) hHeld ?_ ?_
  rotate_left
  · intro wx hSw; (try dsimp only at hSw); go_simp <;> with_reducible rfl
  simp only [Act.put, List.setIfInBounds_toArray, List.set_cons_zero, List.set_cons_succ]
  refine take_yes 12 37 (v := ?_) rfl rfl (by kernel_rfl) (by kernel_rfl) (by kernel_rfl) noPanic_any (by rfl) hHeld ?_ ?_
  rotate_left
  · intro wx hSw; (try dsimp only at hSw); go_simp <;> with_reducible rfl
  simp only [Act.put, List.setIfInBounds_toArray, List.set_cons_zero, List.set_cons_succ]
  refine wpAnyH_ready (rs := [13]) (by kernel_rfl) (by simp) ?_
  refine AllReadyH.cons rfl (fun K hK => ?_) AllReadyH.nil
  go_simp
  refine (leq_is _ _ _ _ _ rfl _).mono ?_
  rintro e wn ⟨rfl, hb⟩
  go_wp2_with fail
  refine hK.out _ _ ⟨cell_later hb hHeld.1, cell_later hb hHeld.2.1, cell_later hb hHeld.2.2.1, cell_later hb hHeld.2.2.2.1, cell_later hb hHeld.2.2.2.2.1, cell_later hb hHeld.2.2.2.2.2.1, cell_later hb hHeld.2.2.2.2.2.2.1, cell_later hb hHeld.2.2.2.2.2.2.2.1, below_step hHeld.2.2.2.2.2.2.2.2 hb⟩ (fun hHeldN => ?_)
  clear hK K hHeld hb
  have hHeld := hHeldN
  clear hHeldN
  (try simp only [Act.put, List.setIfInBounds_toArray, List.set_cons_zero, List.set_cons_succ])
  refine take_yes 14 39 (v := ?_) rfl rfl (by kernel_rfl) (by kernel_rfl) (by kernel_rfl) noPanic_any (by rfl) hHeld ?_ ?_
  rotate_left
  · intro wx hSw; (try dsimp only at hSw); go_simp <;> with_reducible rfl
  simp only [Act.put, List.setIfInBounds_toArray, List.set_cons_zero, List.set_cons_succ]
  refine take_yes 15 40 (v := ?_) rfl rfl (by kernel_rfl) (by kernel_rfl) (by kernel_rfl) noPanic_any (by rfl) hHeld ?_ ?_
  rotate_left
  · intro wx hSw; (try dsimp only at hSw); go_simp <;> with_reducible rfl
  simp only [Act.put, List.setIfInBounds_toArray, List.set_cons_zero, List.set_cons_succ]
  refine take_yes 16 41 (v := ?_) rfl rfl (by kernel_rfl) (by kernel_rfl) (by kernel_rfl) noPanic_any (by rfl) hHeld ?_ ?_
  rotate_left
  · intro wx hSw; (try dsimp only at hSw); go_simp <;> with_reducible rfl
  simp only [Act.put, List.setIfInBounds_toArray, List.set_cons_zero, List.set_cons_succ]
  refine take_yes 17 42 (v := ?_) rfl rfl (by kernel_rfl) (by kernel_rfl) (by kernel_rfl) noPanic_any (by rfl) hHeld ?_ ?_
  rotate_left
  · intro wx hSw; (try dsimp only at hSw); go_simp <;> with_reducible rfl
  simp only [Act.put, List.setIfInBounds_toArray, List.set_cons_zero, List.set_cons_succ]
  refine wpAnyH_ready (rs := [18]) (by kernel_rfl) (by simp) ?_
  refine AllReadyH.cons rfl (fun K hK => ?_) AllReadyH.nil
  go_simp
  refine (over_is _ _ _ _ _ rfl _).mono ?_
  rintro e wn ⟨rfl, hb⟩
  go_wp2_with fail
  refine hK.out _ _ ⟨cell_later hb hHeld.1, cell_later hb hHeld.2.1, cell_later hb hHeld.2.2.1, cell_later hb hHeld.2.2.2.1, cell_later hb hHeld.2.2.2.2.1, cell_later hb hHeld.2.2.2.2.2.1, cell_later hb hHeld.2.2.2.2.2.2.1, cell_later hb hHeld.2.2.2.2.2.2.2.1, below_step hHeld.2.2.2.2.2.2.2.2 hb⟩ (fun hHeldN => ?_)
  clear hK K hHeld hb
  have hHeld := hHeldN
  clear hHeldN
  (try simp only [Act.put, List.setIfInBounds_toArray, List.set_cons_zero, List.set_cons_succ])
  refine take_yes 19 44 (v := ?_) rfl rfl (by kernel_rfl) (by kernel_rfl) (by kernel_rfl) noPanic_any (by rfl) hHeld ?_ ?_
  rotate_left
  · intro wx hSw; (try dsimp only at hSw); go_simp <;> with_reducible rfl
  simp only [Act.put, List.setIfInBounds_toArray, List.set_cons_zero, List.set_cons_succ]
  refine take_yes 20 45 (v := ?_) rfl rfl (by kernel_rfl) (by kernel_rfl) (by kernel_rfl) noPanic_any (by rfl) hHeld ?_ ?_
  rotate_left
  · intro wx hSw; (try dsimp only at hSw); go_simp <;> with_reducible rfl
  simp only [Act.put, List.setIfInBounds_toArray, List.set_cons_zero, List.set_cons_succ]
  refine take_yes 21 46 (v := ?_) rfl rfl (by kernel_rfl) (by kernel_rfl) (by kernel_rfl) noPanic_any (by rfl) hHeld ?_ ?_
  rotate_left
  · intro wx hSw; (try dsimp only at hSw); go_simp <;> with_reducible rfl
  simp only [Act.put, List.setIfInBounds_toArray, List.set_cons_zero, List.set_cons_succ]
  refine take_yes 22 47 (v := ?_) rfl rfl (by kernel_rfl) (by kernel_rfl) (by kernel_rfl) noPanic_any (by rfl) hHeld ?_ ?_
  rotate_left
  · intro wx hSw; (try dsimp only at hSw); go_simp <;> with_reducible rfl
  simp only [Act.put, List.setIfInBounds_toArray, List.set_cons_zero, List.set_cons_succ]
  refine wpAnyH_ready (rs := [23]) (by kernel_rfl) (by simp) ?_
  refine AllReadyH.cons rfl (fun K hK => ?_) AllReadyH.nil
  go_simp
  refine (over_is _ _ _ _ _ rfl _).mono ?_
  rintro e wn ⟨rfl, hb⟩
  go_wp2_with fail
  refine hK.out _ _ ⟨cell_later hb hHeld.1, cell_later hb hHeld.2.1, cell_later hb hHeld.2.2.1, cell_later hb hHeld.2.2.2.1, cell_later hb hHeld.2.2.2.2.1, cell_later hb hHeld.2.2.2.2.2.1, cell_later hb hHeld.2.2.2.2.2.2.1, cell_later hb hHeld.2.2.2.2.2.2.2.1, below_step hHeld.2.2.2.2.2.2.2.2 hb⟩ (fun hHeldN => ?_)
  clear hK K hHeld hb
  have hHeld := hHeldN
  clear hHeldN
  (try simp only [Act.put, List.setIfInBounds_toArray, List.set_cons_zero, List.set_cons_succ])
  refine take_yes 24 49 (v := ?_) rfl rfl (by kernel_rfl) (by kernel_rfl) (by kernel_rfl) noPanic_any (by rfl) hHeld ?_ ?_
  rotate_left
  · intro wx hSw; (try dsimp only at hSw); go_simp <;> with_reducible rfl
  simp only [Act.put, List.setIfInBounds_toArray, List.set_cons_zero, List.set_cons_succ]
  refine take_yes 25 50 (v := ?_) rfl rfl (by kernel_rfl) (by kernel_rfl) (by kernel_rfl) noPanic_any (by rfl) hHeld ?_ ?_
  rotate_left
  · intro wx hSw; (try dsimp only at hSw); go_simp <;> with_reducible rfl
  simp only [Act.put, List.setIfInBounds_toArray, List.set_cons_zero, List.set_cons_succ]
  refine take_no 26 51 rfl rfl (by kernel_rfl) (by kernel_rfl) (by kernel_rfl) noPanic_any (by rfl) hHeld ?_
  simp only [Act.put, List.setIfInBounds_toArray, List.set_cons_zero, List.set_cons_succ]
  refine take_no 27 52 rfl rfl (by kernel_rfl) (by kernel_rfl) (by kernel_rfl) noPanic_any (by rfl) hHeld ?_
  simp only [Act.put, List.setIfInBounds_toArray, List.set_cons_zero, List.set_cons_succ]
  refine take_no 28 53 rfl rfl (by kernel_rfl) (by kernel_rfl) (by kernel_rfl) noPanic_any (by rfl) hHeld ?_
  simp only [Act.put, List.setIfInBounds_toArray, List.set_cons_zero, List.set_cons_succ]
  refine take_no 29 54 rfl rfl (by kernel_rfl) (by kernel_rfl) (by kernel_rfl) noPanic_any (by rfl) hHeld ?_
  simp only [Act.put, List.setIfInBounds_toArray, List.set_cons_zero, List.set_cons_succ]
  refine take_no 30 55 rfl rfl (by kernel_rfl) (by kernel_rfl) (by kernel_rfl) noPanic_any (by rfl) hHeld ?_
  simp only [Act.put, List.setIfInBounds_toArray, List.set_cons_zero, List.set_cons_succ]
  refine take_yes 31 56 (v := ?_) rfl rfl (by kernel_rfl) (by kernel_rfl) (by kernel_rfl) noPanic_any (by rfl) hHeld ?_ ?_
  rotate_left
  · intro wx hSw; (try dsimp only at hSw); go_simp <;> with_reducible rfl
  simp only [Act.put, List.setIfInBounds_toArray, List.set_cons_zero, List.set_cons_succ]
  refine take_yes 32 57 (v := ?_) rfl rfl (by kernel_rfl) (by kernel_rfl) (by kernel_rfl) noPanic_any (by rfl) hHeld ?_ ?_
  rotate_left
  · intro wx hSw; (try dsimp only at hSw); go_simp <;> with_reducible rfl
  simp only [Act.put, List.setIfInBounds_toArray, List.set_cons_zero, List.set_cons_succ]
  refine take_yes 33 6 (v := ?_) rfl rfl (by kernel_rfl) (by kernel_rfl) (by kernel_rfl) noPanic_any (by rfl) hHeld ?_ ?_
  rotate_left
  · intro wx hSw; (try dsimp only at hSw); go_simp <;> with_reducible rfl
  simp only [Act.put, List.setIfInBounds_toArray, List.set_cons_zero, List.set_cons_succ]
  refine wpAnyH_done (by kernel_rfl) ?_ _
  refine NoPanic.normal ?_
  go_wp2_with fail
  go_ret
  exact ⟨rfl, hHeld.2.2.2.2.2.2.2.2⟩

end Go.Proofs.Ytohonaifcpcnbaa
