/-
  The laws' small and like, the document's Right of tries. No conditions but how the numbers lie.
-/
import Derived.Test.YtbenehdikigbaaaDoorLsP
namespace Go.Proofs.YtbenehdikigbaaaDoor
open Go.RowKit

theorem info_try : (Tryd.prog.info? 35).map (·.size) = some 6 := by kernel_rfl
theorem info_tryL : (Tryd.prog.info? 23).map (·.size) = some 6 := by kernel_rfl
def smB (n : Int) : Bool := decide (-1099511627776 ≤ n) && decide (n ≤ 1099511627776)
theorem smB_iff {n : Int} : smB n = true ↔ smI n := by unfold smB smI; simp
def tryL (t : TrP) : List Int := [t.st, t.sn, t.ms, t.wk, t.ls, t.un]
theorem tryL_small {t : TrP} (h : (tryL t).all smB = true) : SmallT t := by
  unfold tryL at h
  simp only [List.all_cons, List.all_nil, Bool.and_true, Bool.and_eq_true, smB_iff] at h
  exact ⟨h.1, h.2.1, h.2.2.1, h.2.2.2.1, h.2.2.2.2.1, h.2.2.2.2.2⟩
theorem six_new (w : World) (t : TypeId) (a b c d e f : Value) : ∀ j u, [a, b, c, d, e, f][j]? = some u → (w.alloc (.cells #[a, b, c, d, e, f] t)).cell? ((⟨w.heap.size, 0, none⟩ : Addr).add j) = some u := by
  intro j u hu
  have ha : (⟨w.heap.size, 0, none⟩ : Addr).add j = ⟨w.heap.size, j, none⟩ := by unfold Addr.add; split <;> simp_all
  rw [ha, cellH (made_at w _)]
  simpa using hu
section
variable {w W : World} {g n : Nat} {T : TypeId} {a0 a1 a2 a3 a4 a5 v0 v1 v2 v3 v4 v5 : Value}
theorem six_row (h : W.heap[g]? = some (.cells #[a0, a1, a2, a3, a4, a5] T (0, 0))) : ((((((W.setCell ⟨g, 0, none⟩ v0).setCell ⟨g, 1, none⟩ v1).setCell ⟨g, 2, none⟩ v2).setCell ⟨g, 3, none⟩ v3).setCell ⟨g, 4, none⟩ v4).setCell ⟨g, 5, none⟩ v5).heap[g]? = some (.cells #[v0, v1, v2, v3, v4, v5] T (0, 0)) := by
  have := row_set (i := 5) (v := v5) (row_set (i := 4) (v := v4) (row_set (i := 3) (v := v3) (row_set (i := 2) (v := v2) (row_set (i := 1) (v := v1) (row_set (i := 0) (v := v0) h)))))
  rw [this]
  simp
theorem six_keep {q : Nat} (hq : q ≠ g) : ((((((W.setCell ⟨g, 0, none⟩ v0).setCell ⟨g, 1, none⟩ v1).setCell ⟨g, 2, none⟩ v2).setCell ⟨g, 3, none⟩ v3).setCell ⟨g, 4, none⟩ v4).setCell ⟨g, 5, none⟩ v5).heap[q]? = W.heap[q]? := by
  have o : ∀ (V : World) (i : Nat) (v : Value), (V.setCell ⟨g, i, none⟩ v).heap[q]? = V.heap[q]? := fun V i v => Below.heap_setCell V ⟨g, i, none⟩ v q (by simpa using hq)
  rw [o, o, o, o, o, o]
theorem six_below (h : Below n w W) (hg : n ≤ g) : Below n w ((((((W.setCell ⟨g, 0, none⟩ v0).setCell ⟨g, 1, none⟩ v1).setCell ⟨g, 2, none⟩ v2).setCell ⟨g, 3, none⟩ v3).setCell ⟨g, 4, none⟩ v4).setCell ⟨g, 5, none⟩ v5) :=
  (((((h.setCell (p := ⟨g, 0, none⟩) hg v0).setCell (p := ⟨g, 1, none⟩) hg v1).setCell (p := ⟨g, 2, none⟩) hg v2).setCell (p := ⟨g, 3, none⟩) hg v3).setCell (p := ⟨g, 4, none⟩) hg v4).setCell (p := ⟨g, 5, none⟩) hg v5
end
set_option maxHeartbeats 1000000 in
set_option maxRecDepth 100000 in
theorem tlike_is (t : TrP) (w : World) : Calls Tryd.prog 10 #[tryV t] w fun e w' => e = .returned (tryV t) ∧ Below w.heap.size w w' := by
  have m1 := later_at ((Below.refl _ _).alloc (Nat.le_refl _) (.cells #[.int .i64 0, .int .i64 0, .int .i64 0, .int .i64 0, .int .i64 0, .int .i64 0] 35)) (made_at w (.cells (tryA t) 23))
  have m2 := made_at (w.alloc (.cells (tryA t) 23)) (.cells #[.int .i64 0, .int .i64 0, .int .i64 0, .int .i64 0, .int .i64 0, .int .i64 0] 35)
  have b1 := ((Below.refl w.heap.size w).alloc (Nat.le_refl _) (.cells (tryA t) 23)).alloc (by simp) (.cells #[.int .i64 0, .int .i64 0, .int .i64 0, .int .i64 0, .int .i64 0, .int .i64 0] 35)
  rw [World.size_alloc] at m2
  go_enter Tryd.func10, Tryd.ntmps10
  go_upto_region 1 with fail
  generalize hW0 : ((w.alloc (.cells (tryA t) 23)).alloc (.cells #[.int .i64 0, .int .i64 0, .int .i64 0, .int .i64 0, .int .i64 0, .int .i64 0] 35)) = W0 at *
  clear hW0
  have x0 := cellH m1 0
  have x1 := cellH m1 1
  have x2 := cellH m1 2
  have x3 := cellH m1 3
  have x4 := cellH m1 4
  have x5 := cellH m1 5
  have y0 := cellH m2 0
  have y1 := cellH m2 1
  have y2 := cellH m2 2
  have y3 := cellH m2 3
  have y4 := cellH m2 4
  have y5 := cellH m2 5
  have f0 := freeH m2 0
  have f1 := freeH m2 1
  have f2 := freeH m2 2
  have f3 := freeH m2 3
  have f4 := freeH m2 4
  have f5 := freeH m2 5
  simp at x0 x1 x2 x3 x4 x5 y0 y1 y2 y3 y4 y5
  have M2 := Lib.hid m2
  have B1 := Lib.hid b1
  clear m1 m2 b1
  go_wp2_with fail
  exact bodyPost_ret (results_cell_row (fn := Tryd.f10) rfl _ _ (w.heap.size + 1) 35 (tryA t) (0, 0) _ rfl (six_row M2.out) Tryd.underlying35 rfl info_try) rfl ⟨rfl, six_below B1.out (by omega)⟩
set_option maxHeartbeats 4000000 in
set_option maxRecDepth 100000 in
theorem refright11_is (t : TrP) (w : World) : Calls Tryd.prog 9 #[tryV t] w fun e w' => e = .returned (.bool (rightT t)) ∧ Below w.heap.size w w' := by
  obtain ⟨r, hr⟩ : ∃ r, r = rightT t := ⟨_, rfl⟩
  rw [← hr]
  have HRR := Lib.hid hr
  clear hr
  have m1 := made_at w (.cells (tryA t) 35)
  have b1 := (Below.refl w.heap.size w).alloc (Nat.le_refl _) (.cells (tryA t) 35)
  go_enter Tryd.func9, Tryd.ntmps9
  go_upto_region 1 with fail
  generalize hW0 : (w.alloc (.cells (tryA t) 35)) = W0 at *
  clear hW0
  have m2 := made_at W0 (.cells #[.int .i64 t.sn, .int .i64 t.wk, .int .i64 t.ls, .int .i64 t.un] 3)
  have hal := (Below.refl _ _).alloc (Nat.le_refl W0.heap.size) (.cells #[.int .i64 t.sn, .int .i64 t.wk, .int .i64 t.ls, .int .i64 t.un] 3)
  have HM1 := Lib.hid (later_at hal m1)
  have HM2 := Lib.hid m2
  have HB := Lib.hid (below_step b1 hal)
  have x1 := cellH m1 1
  have x3 := cellH m1 3
  have x4 := cellH m1 4
  have x5 := cellH m1 5
  simp at x1 x3 x4 x5
  clear hal m1 m2 b1
  go_upto_region 2 with fail
  generalize hW1 : (W0.alloc (.cells #[.int .i64 t.sn, .int .i64 t.wk, .int .i64 t.ls, .int .i64 t.un] 3)) = W1 at *
  clear hW1 x1 x3 x4 x5
  have HIN := Lib.hid (fun (i : Nat) (hi : i < 4) => show ∃ x, [t.sn, t.wk, t.ls, t.un][i]? = some x ∧ W1.cell? ⟨W0.heap.size, i, none⟩ = some (.int .i64 x) from by
    rw [cellH HM2.out]
    match i with
    | 0 => exact ⟨_, rfl, rfl⟩
    | 1 => exact ⟨_, rfl, rfl⟩
    | 2 => exact ⟨_, rfl, rfl⟩
    | 3 => exact ⟨_, rfl, rfl⟩
    | i + 4 => omega)
  have HRF := Lib.hid (fun (x : Int) (hx : x ∈ [t.sn, t.wk, t.ls, t.un]) (h : mostB x = false) => show r = false from by
    rw [HRR.out]
    unfold rightT
    simp only [List.mem_cons, List.not_mem_nil, or_false] at hx
    rcases hx with rfl | rfl | rfl | rfl <;> simp [h])
  go_wp2_with fail
  go_loopw [4] (fun i wr => ∃ k : Nat, i = .int .i64 k ∧ k ≤ 4 ∧ Hid (∀ x ∈ [t.sn, t.wk, t.ls, t.un].take k, mostB x = true) ∧ W1 = wr) (fun i _ => 4 - (intOf i).toNat)
  case atStart => exact ⟨0, rfl, Nat.zero_le _, Lib.hid (fun x hx => by simp at hx), rfl⟩
  case round =>
    obtain ⟨k, rfl, hk, HF, rfl⟩ := hrel
    by_cases hlt : k < 4
    · obtain ⟨x, hx, c0⟩ := HIN.out k hlt
      have hkl : (k : Int) < 4 := by omega
      have HX := Lib.hid hx
      clear hx
      by_cases h1 : x < 0
      · have HE := Lib.hid (HRF.out x (List.mem_of_getElem? HX.out) (by simp [mostB]; omega))
        go_wp2_with fail
        go_ret
        exact ⟨by rw [HE.out]; rfl, HB.out⟩
      by_cases h2 : 1000000 < x
      · have HE := Lib.hid (HRF.out x (List.mem_of_getElem? HX.out) (by simp [mostB]; omega))
        go_wp2_with fail
        go_ret
        exact ⟨by rw [HE.out]; rfl, HB.out⟩
      have HG := Lib.hid (show ∀ y ∈ [t.sn, t.wk, t.ls, t.un].take (k + 1), mostB y = true from by
        intro y hy
        rw [List.take_add_one, HX.out] at hy
        rcases List.mem_append.1 hy with h | h
        · exact HF.out y h
        · obtain rfl : y = x := by simpa using h
          simp [mostB]
          omega)
      go_wp2_with fail
      go_roundw
      case rel => exact ⟨k + 1, by go_num, by omega, HG, by trivial⟩
      case measure => simp [intOf]; omega
    · obtain rfl : k = 4 := by omega
      have hlk : ¬ (4 : Int) < 4 := by omega
      have HM := Lib.hid (show r = ((decide (0 ≤ t.st) && decide (t.st ≤ 4) && (decide (0 ≤ t.ms) && decide (t.ms ≤ 6))) && ((t.st == 2) || ((t.wk == 0) && (t.ls == 0) && (t.un == 0))) && ((t.st == 1) || (t.sn == 0))) from by
        rw [HRR.out]
        unfold rightT
        rw [HF.out t.sn (by simp), HF.out t.wk (by simp), HF.out t.ls (by simp), HF.out t.un (by simp)]
        simp only [Bool.true_and])
      have x0 := cellH HM1.out 0
      have x1 := cellH HM1.out 1
      have x2 := cellH HM1.out 2
      have x3 := cellH HM1.out 3
      have x4 := cellH HM1.out 4
      have x5 := cellH HM1.out 5
      simp at x0 x1 x2 x3 x4 x5
      by_cases h1 : t.st < 0
      · have HE := Lib.hid (show r = false by rw [HM.out]; first | (rw [decide_eq_false (show ¬ 0 ≤ t.st by omega)]; rfl) | (rw [decide_eq_false (show ¬ t.st ≤ 4 by omega)]; simp) | (rw [decide_eq_false (show ¬ 0 ≤ t.ms by omega)]; simp) | (rw [decide_eq_false (show ¬ t.ms ≤ 6 by omega)]; simp))
        go_wp2_with fail
        go_ret
        exact ⟨by rw [HE.out]; rfl, HB.out⟩
      by_cases h2 : 4 < t.st
      · have HE := Lib.hid (show r = false by rw [HM.out]; first | (rw [decide_eq_false (show ¬ 0 ≤ t.st by omega)]; rfl) | (rw [decide_eq_false (show ¬ t.st ≤ 4 by omega)]; simp) | (rw [decide_eq_false (show ¬ 0 ≤ t.ms by omega)]; simp) | (rw [decide_eq_false (show ¬ t.ms ≤ 6 by omega)]; simp))
        go_wp2_with fail
        go_ret
        exact ⟨by rw [HE.out]; rfl, HB.out⟩
      by_cases h3 : t.ms < 0
      · have HE := Lib.hid (show r = false by rw [HM.out]; first | (rw [decide_eq_false (show ¬ 0 ≤ t.st by omega)]; rfl) | (rw [decide_eq_false (show ¬ t.st ≤ 4 by omega)]; simp) | (rw [decide_eq_false (show ¬ 0 ≤ t.ms by omega)]; simp) | (rw [decide_eq_false (show ¬ t.ms ≤ 6 by omega)]; simp))
        go_wp2_with fail
        go_ret
        exact ⟨by rw [HE.out]; rfl, HB.out⟩
      by_cases h4 : 6 < t.ms
      · have HE := Lib.hid (show r = false by rw [HM.out]; first | (rw [decide_eq_false (show ¬ 0 ≤ t.st by omega)]; rfl) | (rw [decide_eq_false (show ¬ t.st ≤ 4 by omega)]; simp) | (rw [decide_eq_false (show ¬ 0 ≤ t.ms by omega)]; simp) | (rw [decide_eq_false (show ¬ t.ms ≤ 6 by omega)]; simp))
        go_wp2_with fail
        go_ret
        exact ⟨by rw [HE.out]; rfl, HB.out⟩
      obtain ⟨b2, hb2⟩ : ∃ b, b = (t.st == 2) := ⟨_, rfl⟩
      obtain ⟨b3, hb3⟩ : ∃ b, b = (t.wk == 0) := ⟨_, rfl⟩
      obtain ⟨b4, hb4⟩ : ∃ b, b = (t.ls == 0) := ⟨_, rfl⟩
      obtain ⟨b5, hb5⟩ : ∃ b, b = (t.un == 0) := ⟨_, rfl⟩
      obtain ⟨b6, hb6⟩ : ∃ b, b = (t.st == 1) := ⟨_, rfl⟩
      obtain ⟨b7, hb7⟩ : ∃ b, b = (t.sn == 0) := ⟨_, rfl⟩
      have HE := Lib.hid (show r = ((b2 || (b3 && b4 && b5)) && (b6 || b7)) by
        rw [HM.out, hb2, hb3, hb4, hb5, hb6, hb7]
        have e1 : decide (0 ≤ t.st) = true := decide_eq_true (by omega)
        have e2 : decide (t.st ≤ 4) = true := decide_eq_true (by omega)
        have e3 : decide (0 ≤ t.ms) = true := decide_eq_true (by omega)
        have e4 : decide (t.ms ≤ 6) = true := decide_eq_true (by omega)
        rw [e1, e2, e3, e4]
        simp only [Bool.true_and, Bool.and_true])
      have n2 : (t.st != 2) = !b2 := by rw [hb2]; rfl
      have n3 : (t.wk != 0) = !b3 := by rw [hb3]; rfl
      have n4 : (t.ls != 0) = !b4 := by rw [hb4]; rfl
      have n5 : (t.un != 0) = !b5 := by rw [hb5]; rfl
      have n6 : (t.st == 1) = b6 := hb6.symm
      have n7 : (t.sn == 0) = b7 := hb7.symm
      clear hb2 hb3 hb4 hb5 hb6 hb7
      cases b2 with
      | true =>
        cases b6 with
        | true =>
          go_wp2_with fail
          go_ret
          exact ⟨by rw [HE.out]; rfl, HB.out⟩
        | false =>
          go_wp2_with fail
          go_ret
          exact ⟨by rw [HE.out]; simp, HB.out⟩
      | false =>
        cases b3 with
        | false =>
          go_wp2_with fail
          go_ret
          exact ⟨by rw [HE.out]; rfl, HB.out⟩
        | true =>
          cases b4 with
          | false =>
            go_wp2_with fail
            go_ret
            exact ⟨by rw [HE.out]; rfl, HB.out⟩
          | true =>
            cases b5 with
            | false =>
              go_wp2_with fail
              go_ret
              exact ⟨by rw [HE.out]; rfl, HB.out⟩
            | true =>
              cases b6 with
              | true =>
                go_wp2_with fail
                go_ret
                exact ⟨by rw [HE.out]; rfl, HB.out⟩
              | false =>
                go_wp2_with fail
                go_ret
                exact ⟨by rw [HE.out]; simp, HB.out⟩
end Go.Proofs.YtbenehdikigbaaaDoor
