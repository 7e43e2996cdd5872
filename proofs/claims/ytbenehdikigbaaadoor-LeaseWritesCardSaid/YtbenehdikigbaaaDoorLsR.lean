/-
  The greatest that each number of a try may be, its six numbers as one value, and Right: what the program's lease answers. No conditions.
-/
import Derived.Test.YtbenehdikigbaaaDoorLsA
namespace Go.Proofs.YtbenehdikigbaaaDoor
open Go.RowKit

abbrev z6 : Array Value := #[.int .i64 0, .int .i64 0, .int .i64 0, .int .i64 0, .int .i64 0, .int .i64 0]
theorem two_try (w : World) (t : TrP) : ((w.alloc (.cells (tryA t) 23)).alloc (.cells z6 23)).heap[w.heap.size]? = some (.cells (tryA t) 23 (0, 0)) ∧ ((w.alloc (.cells (tryA t) 23)).alloc (.cells z6 23)).heap[w.heap.size + 1]? = some (.cells z6 23 (0, 0)) ∧ Below w.heap.size w ((w.alloc (.cells (tryA t) 23)).alloc (.cells z6 23)) := by
  have m2 := made_at (w.alloc (.cells (tryA t) 23)) (.cells z6 23)
  rw [World.size_alloc] at m2
  exact ⟨later_at ((Below.refl _ _).alloc (Nat.le_refl _) _) (made_at w _), m2, ((Below.refl w.heap.size w).alloc (Nat.le_refl _) _).alloc (by simp) _⟩
theorem cells6 {W : World} {g : Nat} {a0 a1 a2 a3 a4 a5 : Value} {T : TypeId} (h1 : W.heap[g]? = some (.cells #[a0, a1, a2, a3, a4, a5] T (0, 0))) :
    (W.cell? ⟨g, 0, none⟩ = some a0 ∧ W.cell? ⟨g, 1, none⟩ = some a1 ∧ W.cell? ⟨g, 2, none⟩ = some a2 ∧ W.cell? ⟨g, 3, none⟩ = some a3 ∧ W.cell? ⟨g, 4, none⟩ = some a4 ∧ W.cell? ⟨g, 5, none⟩ = some a5) ∧
    W.frozen? ⟨g, 0, none⟩ = false ∧ W.frozen? ⟨g, 1, none⟩ = false ∧ W.frozen? ⟨g, 2, none⟩ = false ∧ W.frozen? ⟨g, 3, none⟩ = false ∧ W.frozen? ⟨g, 4, none⟩ = false ∧ W.frozen? ⟨g, 5, none⟩ = false :=
  ⟨⟨by rw [cellH h1]; rfl, by rw [cellH h1]; rfl, by rw [cellH h1]; rfl, by rw [cellH h1]; rfl, by rw [cellH h1]; rfl, by rw [cellH h1]; rfl⟩, freeH h1 0, freeH h1 1, freeH h1 2, freeH h1 3, freeH h1 4, freeH h1 5⟩

/-- The greatest that each number of a try in a state may be. -/
def limP (st : Int) : TrP := if st = 1 then ⟨4, 1000000, 6, 0, 0, 0⟩ else if st = 2 then ⟨4, 0, 6, 1000000, 1000000, 1000000⟩ else ⟨4, 0, 6, 0, 0, 0⟩
def upTo1 (x m : Int) : Bool := decide (0 ≤ x) && decide (x ≤ m)
/-- Each number from 0 to the greatest one. -/
def allUp (t m : TrP) : Bool := upTo1 t.st m.st && upTo1 t.sn m.sn && upTo1 t.ms m.ms && upTo1 t.wk m.wk && upTo1 t.ls m.ls && upTo1 t.un m.un
theorem upTo1_iff {x m : Int} : upTo1 x m = true ↔ 0 ≤ x ∧ x ≤ m := by unfold upTo1; simp
theorem allUp_right (t : TrP) : allUp t (limP t.st) = rightT t := by
  rw [Bool.eq_iff_iff]
  unfold allUp rightT mostB limP
  simp only [Bool.and_eq_true, Bool.or_eq_true, decide_eq_true_eq, beq_iff_eq, upTo1_iff]
  by_cases h1 : t.st = 1
  · rw [if_pos h1]; simp only []; omega
  · rw [if_neg h1]
    by_cases h2 : t.st = 2
    · rw [if_pos h2]; simp only []; omega
    · rw [if_neg h2]; simp only []; omega
theorem info_six : (Tryd.prog.info? 47).map (·.size) = some 6 := by kernel_rfl
theorem two_z6 (w : World) : ((w.alloc (.cells z6 23)).alloc (.cells z6 23)).heap[w.heap.size]? = some (.cells z6 23 (0, 0)) ∧ ((w.alloc (.cells z6 23)).alloc (.cells z6 23)).heap[w.heap.size + 1]? = some (.cells z6 23 (0, 0)) ∧ Below w.heap.size w ((w.alloc (.cells z6 23)).alloc (.cells z6 23)) := two_try w noTr
section
variable {w : World}
theorem row_keep2 {W : World} {B q i : Nat} {v : Value} (hq : q ≠ B) : (W.setCell ⟨B, i, none⟩ v).heap[q]? = W.heap[q]? := Below.heap_setCell W ⟨B, i, none⟩ v q (by simpa using hq)
theorem two_rows (w : World) (cs ds : Array Value) (T U : TypeId) : ((w.alloc (.cells cs T)).alloc (.cells ds U)).heap[w.heap.size]? = some (.cells cs T (0, 0)) ∧ Below w.heap.size w ((w.alloc (.cells cs T)).alloc (.cells ds U)) :=
  ⟨later_at ((Below.refl _ _).alloc (Nat.le_refl _) _) (made_at w _), ((Below.refl w.heap.size w).alloc (Nat.le_refl _) _).alloc (by simp) _⟩
theorem two_rows2 (w : World) (cs ds : Array Value) (T U : TypeId) : ((w.alloc (.cells cs T)).alloc (.cells ds U)).heap[w.heap.size + 1]? = some (.cells ds U (0, 0)) := by
  have m2 := made_at (w.alloc (.cells cs T)) (.cells ds U)
  rw [World.size_alloc] at m2
  exact m2
set_option maxHeartbeats 1000000 in
set_option maxRecDepth 100000 in
theorem llimits_is (st : Int) : Calls Tryd.prog 26 #[.int .i64 st] w fun e w' => e = .returned (tryV (limP st)) ∧ Below w.heap.size w w' := by
  by_cases h1 : st = 1
  · have e : limP st = ⟨4, 1000000, 6, 0, 0, 0⟩ := by unfold limP; rw [if_pos h1]
    rw [e]
    have n1 : (st == 1) = true := beq_iff_eq.2 h1
    clear h1
    clear e
    go_enter Tryd.func26, Tryd.ntmps26
    go_wp2_with fail
    exact bodyPost_ret (results_cell_row (fn := Tryd.f26) rfl _ _ w.heap.size 23 #[.int .i64 4, .int .i64 1000000, .int .i64 6, .int .i64 0, .int .i64 0, .int .i64 0] (0, 0) _ rfl (two_rows w _ _ _ _).1 Tryd.underlying23 rfl info_tryL) rfl ⟨rfl, (two_rows w _ _ _ _).2⟩
  by_cases h2 : st = 2
  · have e : limP st = ⟨4, 0, 6, 1000000, 1000000, 1000000⟩ := by unfold limP; rw [if_neg h1, if_pos h2]
    rw [e]
    have n1 : (st == 1) = false := beq_eq_false_iff_ne.2 h1
    have n2 : (st == 2) = true := beq_iff_eq.2 h2
    clear h1 h2
    clear e
    go_enter Tryd.func26, Tryd.ntmps26
    go_wp2_with fail
    exact bodyPost_ret (results_cell_row (fn := Tryd.f26) rfl _ _ w.heap.size 23 #[.int .i64 4, .int .i64 0, .int .i64 6, .int .i64 1000000, .int .i64 1000000, .int .i64 1000000] (0, 0) _ rfl (two_rows w _ _ _ _).1 Tryd.underlying23 rfl info_tryL) rfl ⟨rfl, (two_rows w _ _ _ _).2⟩
  · have e : limP st = ⟨4, 0, 6, 0, 0, 0⟩ := by unfold limP; rw [if_neg h1, if_neg h2]
    rw [e]
    have n1 : (st == 1) = false := beq_eq_false_iff_ne.2 h1
    have n2 : (st == 2) = false := beq_eq_false_iff_ne.2 h2
    clear h1 h2
    clear e
    go_enter Tryd.func26, Tryd.ntmps26
    go_wp2_with fail
    exact bodyPost_ret (results_cell_row (fn := Tryd.f26) rfl _ _ w.heap.size 23 #[.int .i64 4, .int .i64 0, .int .i64 6, .int .i64 0, .int .i64 0, .int .i64 0] (0, 0) _ rfl (two_rows w _ _ _ _).1 Tryd.underlying23 rfl info_tryL) rfl ⟨rfl, (two_rows w _ _ _ _).2⟩
set_option maxHeartbeats 1000000 in
set_option maxRecDepth 100000 in
theorem lnumbers_is (t : TrP) : Calls Tryd.prog 22 #[tryV t] w fun e w' => e = .returned (tryV t) ∧ Below w.heap.size w w' := by
  have HR := Lib.hid (two_rows2 w (tryA t) (tryA t) 23 47)
  have HB := Lib.hid (two_rows w (tryA t) (tryA t) 23 47).2
  go_enter Tryd.func22, Tryd.ntmps22
  go_wp2_with fail
  exact bodyPost_ret (results_cell_row (fn := Tryd.f22) rfl _ _ (w.heap.size + 1) 47 (tryA t) (0, 0) _ rfl HR.out Tryd.underlying47 rfl info_six) rfl ⟨rfl, HB.out⟩
/-- The array's number k. -/
theorem six_index {t : TrP} {k : Nat} {x : Int} (h : (tryL t)[k]? = some x) (w : World) : (Instr.index 47 (tryV t) (.int .i64 k)).run Tryd.prog w = .ok (.int .i64 x) w := by
  have hk : k < 6 := by
    have := (List.getElem?_eq_some_iff.1 h).1
    simpa [tryL] using this
  have hn : (0 : Int) ≤ (k : Int) ∧ (k : Int) < ((6 : Nat) : Int) := by omega
  have hv : [Value.int .i64 t.st, .int .i64 t.sn, .int .i64 t.ms, .int .i64 t.wk, .int .i64 t.ls, .int .i64 t.un][k]? = some (.int .i64 x) := by
    have : [Value.int .i64 t.st, .int .i64 t.sn, .int .i64 t.ms, .int .i64 t.wk, .int .i64 t.ls, .int .i64 t.un][k]? = ((tryL t)[k]?).map (Value.int .i64) := by rw [← List.getElem?_map]; rfl
    rw [this, h]
    rfl
  simp [Instr.index, run_underlying Tryd.underlying47, asIntOf, hn, hk, go_sem]
  exact (List.getElem?_eq_some_iff.1 hv).2
theorem six_cell {W : World} {g : Nat} {m : TrP} (hr : W.heap[g]? = some (.cells (tryA m) 47 (0, 0))) {k : Nat} {x : Int} (h : (tryL m)[k]? = some x) : W.cell? ⟨g, k, none⟩ = some (.int .i64 x) := by
  rw [cellH hr]
  unfold tryL at h
  match k, h with
  | 0, h => obtain rfl : m.st = x := by simpa using h
            rfl
  | 1, h => obtain rfl : m.sn = x := by simpa using h
            rfl
  | 2, h => obtain rfl : m.ms = x := by simpa using h
            rfl
  | 3, h => obtain rfl : m.wk = x := by simpa using h
            rfl
  | 4, h => obtain rfl : m.ls = x := by simpa using h
            rfl
  | 5, h => obtain rfl : m.un = x := by simpa using h
            rfl
  | k + 6, h => simp at h
/-- One after another. -/
theorem allUp_iff {t m : TrP} : allUp t m = true ↔ ∀ k x y, k < 6 → (tryL t)[k]? = some x → (tryL m)[k]? = some y → upTo1 x y = true := by
  unfold allUp tryL
  simp only [Bool.and_eq_true]
  constructor
  · rintro ⟨⟨⟨⟨⟨h0, h1⟩, h2⟩, h3⟩, h4⟩, h5⟩ k x y hk hx hy
    match k, hx, hy with
    | 0, hx, hy => simp at hx hy; rw [← hx, ← hy]; exact h0
    | 1, hx, hy => simp at hx hy; rw [← hx, ← hy]; exact h1
    | 2, hx, hy => simp at hx hy; rw [← hx, ← hy]; exact h2
    | 3, hx, hy => simp at hx hy; rw [← hx, ← hy]; exact h3
    | 4, hx, hy => simp at hx hy; rw [← hx, ← hy]; exact h4
    | 5, hx, hy => simp at hx hy; rw [← hx, ← hy]; exact h5
    | k + 6, _, _ => omega
  · intro h
    exact ⟨⟨⟨⟨⟨h 0 _ _ (by omega) rfl rfl, h 1 _ _ (by omega) rfl rfl⟩, h 2 _ _ (by omega) rfl rfl⟩, h 3 _ _ (by omega) rfl rfl⟩, h 4 _ _ (by omega) rfl rfl⟩, h 5 _ _ (by omega) rfl rfl⟩
theorem six_get (t : TrP) {k : Nat} (h : k < 6) : ∃ x, (tryL t)[k]? = some x := ⟨_, List.getElem?_eq_getElem (by simpa [tryL] using h)⟩
set_option maxHeartbeats 2000000 in
set_option maxRecDepth 100000 in
theorem lright_is (t : TrP) : Calls Tryd.prog 21 #[tryV t] w fun e w' => e = .returned (.bool (rightT t)) ∧ Below w.heap.size w w' := by
  rw [← allUp_right]
  obtain ⟨m, hm⟩ : ∃ m, m = limP t.st := ⟨_, rfl⟩
  obtain ⟨r, hr⟩ : ∃ r, r = allUp t m := ⟨_, rfl⟩
  rw [← hm, ← hr]
  have HM := Lib.hid hm
  have HR := Lib.hid hr
  have HL := Lib.hid (fun W : World => show Calls Tryd.prog 26 #[.int .i64 t.st] W (fun e w' => e = .returned (tryV m) ∧ Below W.heap.size W w') from by rw [hm]; exact llimits_is _)
  clear hm hr
  have m1 := made_at w (.cells (tryA t) 23)
  have b1 := (Below.refl w.heap.size w).alloc (Nat.le_refl _) (.cells (tryA t) 23)
  go_enter Tryd.func21, Tryd.ntmps21
  go_upto_region 1 with fail
  generalize hW0 : (w.alloc (.cells (tryA t) 23)) = W0 at *
  clear hW0
  obtain ⟨⟨x0, _⟩, _⟩ := cells6 m1
  have M1 := Lib.hid m1
  have B1 := Lib.hid b1
  clear m1 b1
  go_wp2_with fail
  refine (HL.out _).mono ?_
  rintro e w2 ⟨rfl, hb2⟩
  have M2 := Lib.hid (later_at hb2 M1.out)
  have B2 := Lib.hid (below_step B1.out hb2)
  clear hb2 x0 M1 B1
  go_wp2_with fail
  refine (lnumbers_is m).mono ?_
  rintro e w3 ⟨rfl, hb3⟩
  have M3 := Lib.hid (later_at hb3 M2.out)
  have B3 := Lib.hid (below_step B2.out hb3)
  clear hb3 M2 B2
  have M4 := Lib.hid (later_at ((Below.refl _ w3).alloc (Nat.le_refl _) (.cells (tryA m) 47)) M3.out)
  have N4 := Lib.hid (made_at w3 (.cells (tryA m) 47))
  have B4 := Lib.hid (below_step B3.out ((Below.refl _ w3).alloc (Nat.le_refl _) (.cells (tryA m) 47)))
  go_upto_region 2 with fail
  generalize hW4 : w3.alloc _ = W4 at *
  clear hW4
  obtain ⟨⟨x0, x1, x2, x3, x4, x5⟩, _⟩ := cells6 M4.out
  go_wp2_with fail
  refine (lnumbers_is t).mono ?_
  rintro e w5 ⟨rfl, hb5⟩
  have N5 := Lib.hid (later_at hb5 N4.out)
  have B5 := Lib.hid (below_step B4.out hb5)
  clear hb5 x0 x1 x2 x3 x4 x5 M4 N4 B4
  go_wp2_with fail
  go_loopw [12, 4, 5] (fun i _ _ wr => ∃ k : Nat, i = .int .i64 k ∧ k ≤ 6 ∧ Hid (∀ j x y, j < k → (tryL t)[j]? = some x → (tryL m)[j]? = some y → upTo1 x y = true) ∧ w5 = wr) (fun i _ _ _ => 6 - (intOf i).toNat)
  case atStart => exact ⟨0, rfl, Nat.zero_le _, Lib.hid (fun j _ _ hj => by omega), rfl⟩
  case round =>
    obtain ⟨k, rfl, hk, HF, rfl⟩ := hrel
    by_cases hlt : k < 6
    · obtain ⟨x, hx⟩ := six_get t hlt
      obtain ⟨y, hy⟩ := six_get m hlt
      have hkl : (k : Int) < 6 := by omega
      have c0 := six_cell N5.out hy
      have c1 := six_index hx
      have HX := Lib.hid hx
      have HY := Lib.hid hy
      clear hx hy
      by_cases h1 : x < 0
      · have HE := Lib.hid (show r = false from by
          rw [HR.out, Bool.eq_false_iff]
          intro h
          have := upTo1_iff.1 (allUp_iff.1 h k x y hlt HX.out HY.out)
          omega)
        go_wp2_with fail
        go_ret
        exact ⟨by rw [HE.out]; rfl, B5.out⟩
      by_cases h2 : y < x
      · have HE := Lib.hid (show r = false from by
          rw [HR.out, Bool.eq_false_iff]
          intro h
          have := upTo1_iff.1 (allUp_iff.1 h k x y hlt HX.out HY.out)
          omega)
        go_wp2_with fail
        go_ret
        exact ⟨by rw [HE.out]; rfl, B5.out⟩
      have HG := Lib.hid (show ∀ j x y, j < k + 1 → (tryL t)[j]? = some x → (tryL m)[j]? = some y → upTo1 x y = true from fun j a b hj ha hb => by
        rcases Nat.lt_or_ge j k with h | h
        · exact HF.out j a b h ha hb
        · obtain rfl : j = k := by omega
          obtain rfl := Option.some.inj (ha.symm.trans HX.out)
          obtain rfl := Option.some.inj (hb.symm.trans HY.out)
          exact upTo1_iff.2 (by omega))
      go_wp2_with fail
      go_roundw
      case rel => exact ⟨k + 1, by go_num, by omega, HG, by trivial⟩
      case measure => simp [intOf]; omega
    · obtain rfl : k = 6 := by omega
      have hlk : ¬ (6 : Int) < 6 := by omega
      have HE := Lib.hid (show r = true from by rw [HR.out]; exact allUp_iff.2 (fun k x y hk hx hy => HF.out k x y hk hx hy))
      go_wp2_with fail
      go_ret
      exact ⟨by rw [HE.out]; rfl, B5.out⟩
end
end Go.Proofs.YtbenehdikigbaaaDoor
