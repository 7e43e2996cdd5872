/-
  The program's run: Take. Conditions: eight tasks at most, times up to a million.
-/
import Derived.Test.YtfjaibaidpbppaaGreatDoorRuG
namespace Go.Proofs.YtfjaibaidpbppaaGreatDoor
open Go.RowKit

theorem take_wrong {z : RunP} {i now wk ls : Int} (h : wrongE z i 0 1 ≠ 0) (hl : z.ps.length = z.ts.length) : takeR z i now wk ls = (z, wrongE z i 0 1) := by
  unfold takeR
  by_cases h1 : i < 0 ∨ (z.ps.length : Int) ≤ i ∨ 0 < (z.tk i.toNat).need
  · have h2 : hasB z i = false ∨ kindI (z.tk i.toNat) ≠ 0 := by
      rw [hasB_range, kindI_task]
      omega
    have e1 : taskE z i = 2 := by unfold taskE; rw [if_pos h1]
    have e2 : wrongE z i 0 1 = 2 := by unfold wrongE; rw [if_pos h2]
    rw [e1, e2, if_pos (by decide)]
  · have h2 : ¬ (hasB z i = false ∨ kindI (z.tk i.toNat) ≠ 0) := by
      rw [hasB_range, kindI_task]
      omega
    by_cases h3 : statR z ≠ 0
    · have e1 : taskE z i = 12 := by unfold taskE; rw [if_neg h1, if_pos h3]
      have e2 : wrongE z i 0 1 = 12 := by unfold wrongE; rw [if_neg h2, if_pos (.inl h3)]
      rw [e1, e2, if_pos (by decide)]
    · have e1 : taskE z i = 0 := by unfold taskE; rw [if_neg h1, if_neg h3]
      have h4 : (z.pl i.toNat).tr.st ≠ 1 := fun h4 => h (by unfold wrongE; rw [if_neg h2, if_neg (by simp [h3, h4])])
      have e2 : wrongE z i 0 1 = 12 := by unfold wrongE; rw [if_neg h2, if_pos (.inr h4)]
      have e3 : takeP (z.pl i.toNat).tr now wk ls (z.tk i.toNat).time = (noTr, 12) := by unfold takeP; rw [if_pos (.inl h4)]
      rw [e1, e2, if_neg (by decide), e3]
      rfl
theorem two_rdyH {P' : Program} {md : Region.Mode} {ops : Array Oper} {Q : Exit → Act → World → Prop} {S : World → Prop} {fuel i j : Nat} {listed : Array Bool} {a' : Act} {w : World} (hr : Region.ready md ops listed = [i, j])
    (h1 : wpOp P' ops Q i (fun b w' => S w' ∧ wpAnyH P' md ops Q S fuel (listed.setIfInBounds i true) b w') a' w) (h2 : wpOp P' ops Q j (fun b w' => S w' ∧ wpAnyH P' md ops Q S fuel (listed.setIfInBounds j true) b w') a' w) : wpAnyH P' md ops Q S (fuel + 1) listed a' w :=
  wpAnyH_ready hr (by simp) (fun q hq => by
    simp only [List.mem_cons, List.not_mem_nil, or_false] at hq
    rcases hq with rfl | rfl
    · exact h1
    · exact h2)
theorem take_fits {z : RunP} {i now wk ls : Int} {j : Nat} {t : TkP} {p : PlP} (h : Fits z i 0 1 j t p) : takeR z i now wk ls = if (takeP p.tr now wk ls t.time).2 ≠ 0 then (z, (takeP p.tr now wk ls t.time).2) else (z.put j { p with tr := (takeP p.tr now wk ls t.time).1 }, 0) := by
  obtain ⟨e1, e2, e3⟩ := held_zero h
  have hj := (List.getElem?_eq_some_iff.1 h.pl).1
  have e0 : taskE z i = 0 := by
    unfold taskE
    have h1 : ¬ (i < 0 ∨ (z.ps.length : Int) ≤ i ∨ 0 < (z.tk i.toNat).need) := by
      have hk := h.kind
      rw [← e3] at hk
      have : ¬ (kindI (z.tk i.toNat) ≠ 0) := by simp [hk]
      rw [kindI_task] at this
      have := h.i_
      omega
    rw [if_neg h1, if_neg (by simp [h.run])]
  unfold takeR
  rw [if_neg (by simp [e0]), e2, e3, e1]
section
variable {w : World} {X : List Nat} {R B g c d : Nat} {z : RunP} {vs : List Value}
set_option maxHeartbeats 4000000 in
set_option maxRecDepth 100000 in
theorem rtake_is (h : RnC w X R B g c d z vs) (hm : MayP z.pn z.ts) (hl : z.ps.length = z.ts.length) (i now wk ls : Int) (hn : smI now) :
    Calls Tryz.prog 12 #[ptrV R, .int .i64 i, .int .i64 now, .int .i64 wk, .int .i64 ls] w (RcV w X R B g c d (takeR z i now wk ls).1 (.int .i64 (takeR z i now wk ls).2)) := by
  have h8 : z.ps.length ≤ 8 := by rw [hl]; exact hm.right.few.2
  have HA := Lib.hid h
  have HN := Lib.hid hn
  have HL := Lib.hid hl
  have HTM := Lib.hid (show ∀ t ∈ z.ts, smI t.time from fun t ht => by have := (hm.right.task t ht).time; unfold smI; omega)
  have HW := Lib.hid (rwrong_is h hl h8 i 0 1)
  obtain ⟨r, hr⟩ : ∃ r, r = takeR z i now wk ls := ⟨_, rfl⟩
  rw [← hr]
  have HR := Lib.hid hr
  obtain ⟨v, hv⟩ : ∃ v, v = wrongE z i 0 1 := ⟨_, rfl⟩
  rw [← hv] at HW
  have HV := Lib.hid hv
  clear h hm hl hr hv hn
  by_cases h0 : v = 0
  · have h0' := h0
    rw [HV.out] at h0'
    obtain ⟨j, t, p, hF⟩ := wrongE_zero HL.out h0'
    have hE := HR.out
    rw [take_fits hF] at hE
    obtain rfl := hF.i_
    have HP := Lib.hid hF.pl
    have HT := Lib.hid hF.tk
    have n0 : (v != 0) = false := by rw [bne_eq_false_iff_eq]; exact h0
    have hct := fun W : World => ltake_is (w := W) p.tr now wk ls t.time HN.out (HTM.out t (List.mem_of_getElem? HT.out))
    obtain ⟨x, hx⟩ : ∃ x, x = takeP p.tr now wk ls t.time := ⟨_, rfl⟩
    rw [← hx] at hct hE
    obtain ⟨t', q⟩ := x
    dsimp only at hct hE
    have HE := Lib.hid hE
    have HCT := Lib.hid hct
    have hk0 : (0 : Int) ≤ (j : Int) := by omega
    have hkl : (j : Int) < (z.ps.length : Int) := by have := (List.getElem?_eq_some_iff.1 HP.out).1; omega
    have hkt : (j : Int) < (z.ts.length : Int) := by have := (List.getElem?_eq_some_iff.1 HT.out).1; omega
    clear h0 h0' hF hct hx hE
    go_enter Tryz.func12, Tryz.ntmps12
    go_wp2_with fail
    refine HW.out.mono ?_
    rintro e w1 ⟨rfl, hb1⟩
    have HA1 := Lib.hid (HA.out.later hb1)
    have HB1 := Lib.hid hb1
    clear hb1
    obtain ⟨_, x1, x2, _⟩ := HA1.out.cells
    obtain ⟨Y, e, hv, _, _, hc⟩ := HA1.out.step HP.out
    obtain ⟨A, ea, hct, _⟩ := HA1.out.task HT.out
    have p0 : w1.cell? ⟨B, j * 9, none⟩ = some (.int .i64 p.tr.st) := hc 0 _ rfl
    have p1 := hc 1 _ rfl
    have p2 := hc 2 _ rfl
    have p3 := hc 3 _ rfl
    have p4 := hc 4 _ rfl
    have p5 := hc 5 _ rfl
    have pt := hct 3 _ rfl
    clear hv hc hct
    go_upto_region 4 with fail
    go_cut [12, 13] (fun a e wx => e = .int .i64 q ∧ ∃ C, a = .pointer (some ⟨C, 0, none⟩) ∧ Hid (wx.heap[C]? = some (.cells (tryA t') 73 (0, 0))) ∧ Hid (Below w1.heap.size w1 wx) ∧ Hid (w1.heap.size ≤ C))
    case first =>
      refine wp_region_noPanic ?_
      refine wp_region_held_drew (S := fun V => Below w1.heap.size w1 V) (by kernel_rfl) (by exact (Below.refl _ _).drew) (fun hHeld => ?_)
      refine take_yes 0 21 (v := ?_) rfl rfl (by kernel_rfl) (by kernel_rfl) (by kernel_rfl) noPanic_any (by rfl) hHeld ?_ ?_
      rotate_left
      · intro wx hSw; (try dsimp only at hSw); go_simp <;> with_reducible rfl
      simp only [Act.put, List.setIfInBounds_toArray, List.set_cons_zero, List.set_cons_succ]
      refine take_yes 1 22 (v := ?_) rfl rfl (by kernel_rfl) (by kernel_rfl) (by kernel_rfl) noPanic_any (by rfl) hHeld ?_ ?_
      rotate_left
      · intro wx hSw; (try dsimp only at hSw); go_simp <;> with_reducible rfl
      simp only [Act.put, List.setIfInBounds_toArray, List.set_cons_zero, List.set_cons_succ]
      refine take_yes 2 23 (v := ?_) rfl rfl (by kernel_rfl) (by kernel_rfl) (by kernel_rfl) noPanic_any (by rfl) hHeld ?_ ?_
      rotate_left
      · intro wx hSw; (try dsimp only at hSw); go_simp <;> with_reducible rfl
      simp only [Act.put, List.setIfInBounds_toArray, List.set_cons_zero, List.set_cons_succ]
      refine take_yes 3 24 (v := ?_) rfl rfl (by kernel_rfl) (by kernel_rfl) (by kernel_rfl) noPanic_any (by rfl) hHeld ?_ ?_
      rotate_left
      · intro wx hSw; (try dsimp only at hSw); have y0 := cell_later hSw x2; go_simp <;> with_reducible rfl
      simp only [Act.put, List.setIfInBounds_toArray, List.set_cons_zero, List.set_cons_succ]
      refine take_yes 4 25 (v := ?_) rfl rfl (by kernel_rfl) (by kernel_rfl) (by kernel_rfl) noPanic_any (by rfl) hHeld ?_ ?_
      rotate_left
      · intro wx hSw; (try dsimp only at hSw); go_simp <;> with_reducible rfl
      simp only [Act.put, List.setIfInBounds_toArray, List.set_cons_zero, List.set_cons_succ]
      refine take_yes 5 26 (v := ?_) rfl rfl (by kernel_rfl) (by kernel_rfl) (by kernel_rfl) noPanic_any (by rfl) hHeld ?_ ?_
      rotate_left
      · intro wx hSw; (try dsimp only at hSw); go_simp <;> with_reducible rfl
      simp only [Act.put, List.setIfInBounds_toArray, List.set_cons_zero, List.set_cons_succ]
      refine take_yes 6 27 (v := ?_) rfl rfl (by kernel_rfl) (by kernel_rfl) (by kernel_rfl) noPanic_any (by rfl) hHeld ?_ ?_
      rotate_left
      · intro wx hSw; (try dsimp only at hSw); go_simp <;> with_reducible rfl
      simp only [Act.put, List.setIfInBounds_toArray, List.set_cons_zero, List.set_cons_succ]
      refine take_yes 7 28 (v := ?_) rfl rfl (by kernel_rfl) (by kernel_rfl) (by kernel_rfl) noPanic_any (by rfl) hHeld ?_ ?_
      rotate_left
      · intro wx hSw; (try dsimp only at hSw); have y0 := cell_later hSw p0; have y1 := cell_later hSw p1; have y2 := cell_later hSw p2; have y3 := cell_later hSw p3; have y4 := cell_later hSw p4; have y5 := cell_later hSw p5; go_simp <;> with_reducible rfl
      simp only [Act.put, List.setIfInBounds_toArray, List.set_cons_zero, List.set_cons_succ]
      refine take_yes 8 29 (v := ?_) rfl rfl (by kernel_rfl) (by kernel_rfl) (by kernel_rfl) noPanic_any (by rfl) hHeld ?_ ?_
      rotate_left
      · intro wx hSw; (try dsimp only at hSw); go_simp <;> with_reducible rfl
      simp only [Act.put, List.setIfInBounds_toArray, List.set_cons_zero, List.set_cons_succ]
      refine take_yes 9 30 (v := ?_) rfl rfl (by kernel_rfl) (by kernel_rfl) (by kernel_rfl) noPanic_any (by rfl) hHeld ?_ ?_
      rotate_left
      · intro wx hSw; (try dsimp only at hSw); go_simp <;> with_reducible rfl
      simp only [Act.put, List.setIfInBounds_toArray, List.set_cons_zero, List.set_cons_succ]
      refine take_yes 10 31 (v := ?_) rfl rfl (by kernel_rfl) (by kernel_rfl) (by kernel_rfl) noPanic_any (by rfl) hHeld ?_ ?_
      rotate_left
      · intro wx hSw; (try dsimp only at hSw); go_simp <;> with_reducible rfl
      simp only [Act.put, List.setIfInBounds_toArray, List.set_cons_zero, List.set_cons_succ]
      refine take_yes 11 32 (v := ?_) rfl rfl (by kernel_rfl) (by kernel_rfl) (by kernel_rfl) noPanic_any (by rfl) hHeld ?_ ?_
      rotate_left
      · intro wx hSw; (try dsimp only at hSw); go_simp <;> with_reducible rfl
      simp only [Act.put, List.setIfInBounds_toArray, List.set_cons_zero, List.set_cons_succ]
      refine take_yes 12 33 (v := ?_) rfl rfl (by kernel_rfl) (by kernel_rfl) (by kernel_rfl) noPanic_any (by rfl) hHeld ?_ ?_
      rotate_left
      · intro wx hSw; (try dsimp only at hSw); go_simp <;> with_reducible rfl
      simp only [Act.put, List.setIfInBounds_toArray, List.set_cons_zero, List.set_cons_succ]
      refine take_yes 13 34 (v := ?_) rfl rfl (by kernel_rfl) (by kernel_rfl) (by kernel_rfl) noPanic_any (by rfl) hHeld ?_ ?_
      rotate_left
      · intro wx hSw; (try dsimp only at hSw); go_simp <;> with_reducible rfl
      simp only [Act.put, List.setIfInBounds_toArray, List.set_cons_zero, List.set_cons_succ]
      refine take_yes 14 35 (v := ?_) rfl rfl (by kernel_rfl) (by kernel_rfl) (by kernel_rfl) noPanic_any (by rfl) hHeld ?_ ?_
      rotate_left
      · intro wx hSw; (try dsimp only at hSw); go_simp <;> with_reducible rfl
      simp only [Act.put, List.setIfInBounds_toArray, List.set_cons_zero, List.set_cons_succ]
      refine take_yes 15 36 (v := ?_) rfl rfl (by kernel_rfl) (by kernel_rfl) (by kernel_rfl) noPanic_any (by rfl) hHeld ?_ ?_
      rotate_left
      · intro wx hSw; (try dsimp only at hSw); have y0 := cell_later hSw x1; go_simp <;> with_reducible rfl
      simp only [Act.put, List.setIfInBounds_toArray, List.set_cons_zero, List.set_cons_succ]
      refine take_yes 16 37 (v := ?_) rfl rfl (by kernel_rfl) (by kernel_rfl) (by kernel_rfl) noPanic_any (by rfl) hHeld ?_ ?_
      rotate_left
      · intro wx hSw; (try dsimp only at hSw); go_simp <;> with_reducible rfl
      simp only [Act.put, List.setIfInBounds_toArray, List.set_cons_zero, List.set_cons_succ]
      refine take_yes 17 38 (v := ?_) rfl rfl (by kernel_rfl) (by kernel_rfl) (by kernel_rfl) noPanic_any (by rfl) hHeld ?_ ?_
      rotate_left
      · intro wx hSw; (try dsimp only at hSw); go_simp <;> with_reducible rfl
      simp only [Act.put, List.setIfInBounds_toArray, List.set_cons_zero, List.set_cons_succ]
      refine take_yes 18 39 (v := ?_) rfl rfl (by kernel_rfl) (by kernel_rfl) (by kernel_rfl) noPanic_any (by rfl) hHeld ?_ ?_
      rotate_left
      · intro wx hSw; (try dsimp only at hSw); go_simp <;> with_reducible rfl
      simp only [Act.put, List.setIfInBounds_toArray, List.set_cons_zero, List.set_cons_succ]
      refine take_yes 19 40 (v := ?_) rfl rfl (by kernel_rfl) (by kernel_rfl) (by kernel_rfl) noPanic_any (by rfl) hHeld ?_ ?_
      rotate_left
      · intro wx hSw; (try dsimp only at hSw); have y0 := cell_later hSw pt; go_simp <;> with_reducible rfl
      simp only [Act.put, List.setIfInBounds_toArray, List.set_cons_zero, List.set_cons_succ]
      generalize w1.drew = W2 at *
      clear p0 p1 p2 p3 p4 p5 pt x1 x2
      refine two_rdyH (i := 20) (j := 24) (by kernel_rfl) (wpOp_step rfl (fun KK hKK => ?_)) (wpOp_step rfl (fun KK hKK => ?_))
      · have HKK := Lib.hid hKK
        clear hKK
        go_simp
        refine (HCT.out _).mono ?_
        rintro e W3 ⟨rfl, hb3⟩
        have hHeld := below_step hHeld hb3
        refine HKK.out _ _ ⟨hHeld, ?_⟩
        clear HKK KK hb3
        (try simp only [Act.put, List.setIfInBounds_toArray, List.set_cons_zero, List.set_cons_succ])
        refine take_yes 21 20 (v := ?_) rfl rfl (by kernel_rfl) (by kernel_rfl) (by kernel_rfl) noPanic_any (by rfl) hHeld ?_ ?_
        rotate_left
        · intro wx hSw; (try dsimp only at hSw); go_simp <;> with_reducible rfl
        simp only [Act.put, List.setIfInBounds_toArray, List.set_cons_zero, List.set_cons_succ]
        refine take_yes 22 42 (v := ?_) rfl rfl (by kernel_rfl) (by kernel_rfl) (by kernel_rfl) noPanic_any (by rfl) hHeld ?_ ?_
        rotate_left
        · intro wx hSw; (try dsimp only at hSw); go_simp <;> with_reducible rfl
        simp only [Act.put, List.setIfInBounds_toArray, List.set_cons_zero, List.set_cons_succ]
        refine take_yes 23 43 (v := ?_) rfl rfl (by kernel_rfl) (by kernel_rfl) (by kernel_rfl) noPanic_any (by rfl) hHeld ?_ ?_
        rotate_left
        · intro wx hSw; (try dsimp only at hSw); go_simp <;> with_reducible rfl
        simp only [Act.put, List.setIfInBounds_toArray, List.set_cons_zero, List.set_cons_succ]
        refine one_readyH (i := 24) (by kernel_rfl) (wpOp_step rfl (fun KK hKK => ?_))
        have HKK := Lib.hid hKK
        clear hKK
        go_simp
        refine HKK.out _ _ ⟨hHeld.alloc hHeld.size _, ?_⟩
        clear HKK KK
        (try simp only [Act.put, List.setIfInBounds_toArray, List.set_cons_zero, List.set_cons_succ])
        have HCC := Lib.hid (show w1.heap.size ≤ W3.heap.size from hHeld.size)
        have HMC := Lib.hid (made_at W3 (.cells z6 73))
        have hHeld := hHeld.alloc hHeld.size (.cells z6 73)
        generalize W3.alloc (.cells z6 73) = W4 at *
        generalize W3.heap.size = C at *
        obtain ⟨⟨q0, q1, q2, q3, q4, q5⟩, f0, f1, f2, f3, f4, f5⟩ := cells6 HMC.out
        refine one_readyH (i := 25) (by kernel_rfl) (wpOp_step rfl (fun KK hKK => ?_))
        have HKK := Lib.hid hKK
        clear hKK
        go_simp
        refine HKK.out _ _ ⟨six_below hHeld HCC.out, ?_⟩
        clear HKK KK
        (try simp only [Act.put, List.setIfInBounds_toArray, List.set_cons_zero, List.set_cons_succ])
        have hHeld := six_below (v0 := .int .i64 t'.st) (v1 := .int .i64 t'.sn) (v2 := .int .i64 t'.ms) (v3 := .int .i64 t'.wk) (v4 := .int .i64 t'.ls) (v5 := .int .i64 t'.un) hHeld HCC.out
        have HM2 := Lib.hid (six_row (v0 := .int .i64 t'.st) (v1 := .int .i64 t'.sn) (v2 := .int .i64 t'.ms) (v3 := .int .i64 t'.wk) (v4 := .int .i64 t'.ls) (v5 := .int .i64 t'.un) HMC.out)
        clear q0 q1 q2 q3 q4 q5 f0 f1 f2 f3 f4 f5
        generalize ((((((W4.setCell ⟨C, 0, none⟩ (.int .i64 t'.st)).setCell ⟨C, 1, none⟩ (.int .i64 t'.sn)).setCell ⟨C, 2, none⟩ (.int .i64 t'.ms)).setCell ⟨C, 3, none⟩ (.int .i64 t'.wk)).setCell ⟨C, 4, none⟩ (.int .i64 t'.ls)).setCell ⟨C, 5, none⟩ (.int .i64 t'.un)) = W9 at *
        refine one_readyH (i := 26) (by kernel_rfl) (wpOp_step rfl (fun KK hKK => ?_))
        have HKK := Lib.hid hKK
        clear hKK
        go_simp
        refine HKK.out _ _ ⟨hHeld, ?_⟩
        clear HKK KK
        (try simp only [Act.put, List.setIfInBounds_toArray, List.set_cons_zero, List.set_cons_succ])
        have HH := Lib.hid hHeld
        clear hHeld
        refine wpAnyH_done (by kernel_rfl) ?_ _
        refine NoPanic.normal ?_
        go_wp2_with fail
        go_meet
        exact ⟨rfl, C, rfl, HM2, HH, HCC⟩
      · have HKK := Lib.hid hKK
        clear hKK
        go_simp
        refine HKK.out _ _ ⟨hHeld.alloc hHeld.size _, ?_⟩
        clear HKK KK
        (try simp only [Act.put, List.setIfInBounds_toArray, List.set_cons_zero, List.set_cons_succ])
        have HCC := Lib.hid (show w1.heap.size ≤ W2.heap.size from hHeld.size)
        have hmc := made_at W2 (.cells z6 73)
        have hHeld := hHeld.alloc hHeld.size (.cells z6 73)
        generalize W2.alloc (.cells z6 73) = W3 at *
        generalize W2.heap.size = C at *
        refine one_readyH (i := 20) (by kernel_rfl) (wpOp_step rfl (fun KK hKK => ?_))
        have HKK := Lib.hid hKK
        clear hKK
        go_simp
        refine (HCT.out _).mono ?_
        rintro e W4 ⟨rfl, hb4⟩
        have hHeld := below_step hHeld hb4
        have HMC := Lib.hid (later_at hb4 hmc)
        clear hb4 hmc
        refine HKK.out _ _ ⟨hHeld, ?_⟩
        clear HKK KK
        (try simp only [Act.put, List.setIfInBounds_toArray, List.set_cons_zero, List.set_cons_succ])
        refine take_yes 21 20 (v := ?_) rfl rfl (by kernel_rfl) (by kernel_rfl) (by kernel_rfl) noPanic_any (by rfl) hHeld ?_ ?_
        rotate_left
        · intro wx hSw; (try dsimp only at hSw); go_simp <;> with_reducible rfl
        simp only [Act.put, List.setIfInBounds_toArray, List.set_cons_zero, List.set_cons_succ]
        refine take_yes 22 42 (v := ?_) rfl rfl (by kernel_rfl) (by kernel_rfl) (by kernel_rfl) noPanic_any (by rfl) hHeld ?_ ?_
        rotate_left
        · intro wx hSw; (try dsimp only at hSw); go_simp <;> with_reducible rfl
        simp only [Act.put, List.setIfInBounds_toArray, List.set_cons_zero, List.set_cons_succ]
        refine take_yes 23 43 (v := ?_) rfl rfl (by kernel_rfl) (by kernel_rfl) (by kernel_rfl) noPanic_any (by rfl) hHeld ?_ ?_
        rotate_left
        · intro wx hSw; (try dsimp only at hSw); go_simp <;> with_reducible rfl
        simp only [Act.put, List.setIfInBounds_toArray, List.set_cons_zero, List.set_cons_succ]
        obtain ⟨⟨q0, q1, q2, q3, q4, q5⟩, f0, f1, f2, f3, f4, f5⟩ := cells6 HMC.out
        refine one_readyH (i := 25) (by kernel_rfl) (wpOp_step rfl (fun KK hKK => ?_))
        have HKK := Lib.hid hKK
        clear hKK
        go_simp
        refine HKK.out _ _ ⟨six_below hHeld HCC.out, ?_⟩
        clear HKK KK
        (try simp only [Act.put, List.setIfInBounds_toArray, List.set_cons_zero, List.set_cons_succ])
        have hHeld := six_below (v0 := .int .i64 t'.st) (v1 := .int .i64 t'.sn) (v2 := .int .i64 t'.ms) (v3 := .int .i64 t'.wk) (v4 := .int .i64 t'.ls) (v5 := .int .i64 t'.un) hHeld HCC.out
        have HM2 := Lib.hid (six_row (v0 := .int .i64 t'.st) (v1 := .int .i64 t'.sn) (v2 := .int .i64 t'.ms) (v3 := .int .i64 t'.wk) (v4 := .int .i64 t'.ls) (v5 := .int .i64 t'.un) HMC.out)
        clear q0 q1 q2 q3 q4 q5 f0 f1 f2 f3 f4 f5
        generalize ((((((W4.setCell ⟨C, 0, none⟩ (.int .i64 t'.st)).setCell ⟨C, 1, none⟩ (.int .i64 t'.sn)).setCell ⟨C, 2, none⟩ (.int .i64 t'.ms)).setCell ⟨C, 3, none⟩ (.int .i64 t'.wk)).setCell ⟨C, 4, none⟩ (.int .i64 t'.ls)).setCell ⟨C, 5, none⟩ (.int .i64 t'.un)) = W9 at *
        refine one_readyH (i := 26) (by kernel_rfl) (wpOp_step rfl (fun KK hKK => ?_))
        have HKK := Lib.hid hKK
        clear hKK
        go_simp
        refine HKK.out _ _ ⟨hHeld, ?_⟩
        clear HKK KK
        (try simp only [Act.put, List.setIfInBounds_toArray, List.set_cons_zero, List.set_cons_succ])
        have HH := Lib.hid hHeld
        clear hHeld
        refine wpAnyH_done (by kernel_rfl) ?_ _
        refine NoPanic.normal ?_
        go_wp2_with fail
        go_meet
        exact ⟨rfl, C, rfl, HM2, HH, HCC⟩
    case rest =>
      obtain ⟨rfl, C, rfl, HMC, HBC, HCC⟩ := hcut
      clear p0 p1 p2 p3 p4 p5 pt x1 x2
      have HA2 := Lib.hid (HA1.out.later HBC.out)
      have HB2 := Lib.hid (below_step HB1.out HBC.out)
      clear HA1 HBC HB1
      by_cases hq0 : q = 0
      · have n1 : (q != 0) = false := by rw [bne_eq_false_iff_eq]; exact hq0
        have HE2 := Lib.hid (show r = (z.put j { p with tr := t' }, 0) by rw [HE.out, if_neg (by simp [hq0])])
        clear hq0
        obtain ⟨_, x1, x2, _⟩ := HA2.out.cells
        obtain ⟨Y, e, hv, _, _, hc⟩ := HA2.out.step HP.out
        have p0 : wc.cell? ⟨B, j * 9, none⟩ = some (.int .i64 p.tr.st) := hc 0 _ rfl
        have p1 := hc 1 _ rfl
        have p2 := hc 2 _ rfl
        have p3 := hc 3 _ rfl
        have p4 := hc 4 _ rfl
        have p5 := hc 5 _ rfl
        obtain ⟨⟨q0, q1, q2, q3, q4, q5⟩, _⟩ := cells6 HMC.out
        clear hv hc
        go_upto_region 7 with fail
        obtain ⟨S, hS0, hSk, hSx, hSe⟩ := held_below wc
        have f2 := fun q : HeldW S => cell_later (hSx q) x2
        have g0 := fun q : HeldW S => cell_later (hSx q) q0
        have g1 := fun q : HeldW S => cell_later (hSx q) q1
        have g2 := fun q : HeldW S => cell_later (hSx q) q2
        have g3 := fun q : HeldW S => cell_later (hSx q) q3
        have g4 := fun q : HeldW S => cell_later (hSx q) q4
        have g5 := fun q : HeldW S => cell_later (hSx q) q5
        have HS0 := Lib.hid hS0
        have HSE := Lib.hid hSe
        clear hS0 hSk hSe hSx p0 p1 p2 p3 p4 p5 x1 x2 q0 q1 q2 q3 q4 q5
        refine wp_region_phase S 8 1 (by kernel_rfl) (by kernel_rfl) rfl (by kernel_rfl) (by kernel_rfl) HS0.out ?_
        intro hne
        simp only [List.take_succ_cons, List.take_zero]
        repeat (go_big_quiet_step (exact rfl))
        refine wpQuiet_nil ?_
        rintro w4 ⟨⟨_, hq4⟩, rfl⟩
        clear f2 g0 g1 g2 g3 g4 g5 hne
        have hb4 := HSE.out _ hq4
        have HA4 := Lib.hid (HA2.out.later hb4)
        have HO4 := Lib.hid (OnlyO.of_below (O := [R, B]) (below_step HB2.out hb4))
        clear hq4 hb4 HSE HS0 HA2 HB2
        have HF := Lib.hid (show RcV w X R B g c d r.1 (.int .i64 r.2) (.returned (.int .i64 r.2)) (set6 w4 B (j * 9) t') from by rw [HE2.out]; exact RcV.of (HA4.out.setTry HP.out t') (HO4.out.trans (onlyO_set6 (W := w4) (B := B) (M := [R, B]) (o := j * 9) (t := t') (by simp)) New.refl))
        obtain ⟨Y, e, hv, _, _, hc⟩ := HA4.out.step HP.out
        have p0 : w4.cell? ⟨B, j * 9, none⟩ = some (.int .i64 p.tr.st) := hc 0 _ rfl
        have p1 := hc 1 _ rfl
        have p2 := hc 2 _ rfl
        have p3 := hc 3 _ rfl
        have p4 := hc 4 _ rfl
        have p5 := hc 5 _ rfl
        have zf := HA4.out.free
        clear hv hc HA4 HO4
        refine one_ready (i := 8) (by kernel_rfl) (wpOp_step rfl (fun KK hKK => ?_))
        have HKK := Lib.hid hKK
        clear hKK
        go_simp
        refine HKK.out _ _ ?_
        clear HKK KK p0 p1 p2 p3 p4 p5 zf
        refine ⟨by kernel_rfl, ?_⟩
        go_wp2_with fail
        go_ret
        have hf := HF.out
        rw [HE2.out] at hf ⊢
        exact hf
      · have n1 : (q != 0) = true := by rw [bne_iff_ne]; exact hq0
        have HE2 := Lib.hid (show r = (z, q) by rw [HE.out, if_pos hq0])
        clear hq0
        go_wp2_with fail
        go_ret
        rw [HE2.out]
        exact RcV.same HA.out HB2.out
  · have HE := Lib.hid (show r = (z, v) by rw [HR.out, take_wrong (by rw [← HV.out]; exact h0) HL.out, ← HV.out])
    have n0 : (v != 0) = true := by rw [bne_iff_ne]; exact h0
    clear h0
    go_enter Tryz.func12, Tryz.ntmps12
    go_wp2_with fail
    refine HW.out.mono ?_
    rintro e w1 ⟨rfl, hb1⟩
    have HB1 := Lib.hid hb1
    clear hb1
    go_wp2_with fail
    go_ret
    rw [HE.out]
    exact RcV.same HA.out HB1.out
end
end Go.Proofs.YtfjaibaidpbppaaGreatDoor
