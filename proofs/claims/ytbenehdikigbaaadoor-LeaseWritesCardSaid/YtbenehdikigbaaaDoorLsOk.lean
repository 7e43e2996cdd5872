/-
  The program's lease is what layer 11's laws ask. No conditions but sizes.
-/
import Derived.Test.YtbenehdikigbaaaDoorLsR
namespace Go.Proofs.YtbenehdikigbaaaDoor
open Go.RowKit

section
variable {w : World}
theorem results_cell_tmp {P : Program} {fn : Func} {p u : Tmp} {ty : TypeId} (h : fn.results = #[.cell p ty, .tmp u]) (tmps : Array Value) (w : World) (g : Nat) (t : TypeId) (cs : Array Value) (fr : Nat × Nat) (d : TypeDesc)
    (hp : tmps.getD p undef = .pointer (some ⟨g, 0, none⟩)) (hg : w.heap[g]? = some (.cells cs t fr))
    (hu : P.underlying ty = some d) (hd : (match d with | .struct _ | .array _ _ => true | _ => false) = true) (hi : (P.info? ty).map (·.size) = some cs.size) :
    (results fn tmps).run P w = .ok (.tuple #[.agg cs, tmps.getD u undef]) w := by
  have hp' : tmps[p]?.getD undef = .pointer (some ⟨g, 0, none⟩) := by simpa using hp
  simp [results, h, hp', asAddr, run_loadVar_row w g t ty cs fr d hg hu hd hi]
set_option maxHeartbeats 4000000 in
set_option maxRecDepth 100000 in
theorem lmiss_is (t : TrP) (a r : Int) (hs : SmallT t) (ha : smI a) : Calls Tryd.prog 17 #[tryV t, .int .i64 a, .int .i64 r] w fun e w' => e = .returned (tryV (missP t a r)) ∧ Below w.heap.size w w' := by
  have hm := hs.ms
  unfold smI at hm ha
  obtain ⟨hm1, hm2⟩ := hm
  obtain ⟨ha1, ha2⟩ := ha
  clear hs
  by_cases h2 : t.st = 2
  · by_cases hr : r < t.ms + 1
    · have e : missP t a r = ⟨4, 0, t.ms + 1, 0, 0, 0⟩ := by unfold missP; rw [if_neg (by simp [h2]), if_pos hr]
      rw [e]
      have n1 : (t.st != 2) = false := by rw [bne_eq_false_iff_eq]; exact h2
      clear h2 e
      obtain ⟨m1, m2, b1⟩ := two_try w t
      go_enter Tryd.func17, Tryd.ntmps17
      go_upto_region 1 with fail
      generalize hW0 : ((w.alloc (.cells (tryA t) 23)).alloc (.cells z6 23)) = W0 at *
      clear hW0
      obtain ⟨⟨x0, x1, x2, x3, x4, x5⟩, g0, g1, g2, g3, g4, g5⟩ := cells6 m1
      obtain ⟨⟨y0, y1, y2, y3, y4, y5⟩, f0, f1, f2, f3, f4, f5⟩ := cells6 m2
      have M1 := Lib.hid m1
      have M2 := Lib.hid m2
      have B1 := Lib.hid b1
      clear m1 m2 b1
      go_wp2_with fail
      exact bodyPost_ret (results_cell_row (fn := Tryd.f17) rfl _ _ (w.heap.size + 1) 23 #[.int .i64 4, .int .i64 0, .int .i64 (t.ms + 1), .int .i64 0, .int .i64 0, .int .i64 0] (0, 0) _ rfl (six_row M2.out) Tryd.underlying23 rfl info_tryL) rfl ⟨rfl, six_below B1.out (by omega)⟩
    · have e : missP t a r = ⟨1, a + (t.ms + 1), t.ms + 1, 0, 0, 0⟩ := by unfold missP; rw [if_neg (by simp [h2]), if_neg hr]
      rw [e]
      have n1 : (t.st != 2) = false := by rw [bne_eq_false_iff_eq]; exact h2
      clear h2 e
      obtain ⟨m1, m2, b1⟩ := two_try w t
      go_enter Tryd.func17, Tryd.ntmps17
      go_upto_region 1 with fail
      generalize hW0 : ((w.alloc (.cells (tryA t) 23)).alloc (.cells z6 23)) = W0 at *
      clear hW0
      obtain ⟨⟨x0, x1, x2, x3, x4, x5⟩, g0, g1, g2, g3, g4, g5⟩ := cells6 m1
      obtain ⟨⟨y0, y1, y2, y3, y4, y5⟩, f0, f1, f2, f3, f4, f5⟩ := cells6 m2
      have M1 := Lib.hid m1
      have M2 := Lib.hid m2
      have B1 := Lib.hid b1
      clear m1 m2 b1
      go_wp2_with fail
      exact bodyPost_ret (results_cell_row (fn := Tryd.f17) rfl _ _ (w.heap.size + 1) 23 #[.int .i64 1, .int .i64 (a + (t.ms + 1)), .int .i64 (t.ms + 1), .int .i64 0, .int .i64 0, .int .i64 0] (0, 0) _ rfl (six_row M2.out) Tryd.underlying23 rfl info_tryL) rfl ⟨rfl, six_below B1.out (by omega)⟩
  · have e : missP t a r = t := by unfold missP; rw [if_pos h2]
    rw [e]
    have n1 : (t.st != 2) = true := by rw [bne_iff_ne]; exact h2
    clear h2 e
    obtain ⟨m1, m2, b1⟩ := two_try w t
    go_enter Tryd.func17, Tryd.ntmps17
    go_upto_region 1 with fail
    generalize hW0 : ((w.alloc (.cells (tryA t) 23)).alloc (.cells z6 23)) = W0 at *
    clear hW0
    obtain ⟨⟨x0, x1, x2, x3, x4, x5⟩, g0, g1, g2, g3, g4, g5⟩ := cells6 m1
    obtain ⟨⟨y0, y1, y2, y3, y4, y5⟩, f0, f1, f2, f3, f4, f5⟩ := cells6 m2
    have M1 := Lib.hid m1
    have M2 := Lib.hid m2
    have B1 := Lib.hid b1
    clear m1 m2 b1
    go_wp2_with fail
    exact bodyPost_ret (results_cell_row (fn := Tryd.f17) rfl _ _ (w.heap.size + 1) 23 (tryA t) (0, 0) _ rfl (six_row M2.out) Tryd.underlying23 rfl info_tryL) rfl ⟨rfl, six_below B1.out (by omega)⟩
set_option maxHeartbeats 4000000 in
set_option maxRecDepth 100000 in
theorem lopen_is (t : TrP) (now : Int) : Calls Tryd.prog 14 #[tryV t, .int .i64 now] w fun e w' => e = .returned (tryV (openP t now)) ∧ Below w.heap.size w w' := by
  by_cases h0 : t.st = 0
  · have e : openP t now = ⟨1, now, t.ms, t.wk, t.ls, t.un⟩ := by unfold openP; rw [if_pos h0]
    rw [e]
    have n1 : (t.st != 0) = false := by rw [bne_eq_false_iff_eq]; exact h0
    clear h0 e
    obtain ⟨m1, m2, b1⟩ := two_try w t
    go_enter Tryd.func14, Tryd.ntmps14
    go_upto_region 1 with fail
    generalize hW0 : ((w.alloc (.cells (tryA t) 23)).alloc (.cells z6 23)) = W0 at *
    clear hW0
    obtain ⟨⟨x0, x1, x2, x3, x4, x5⟩, g0, g1, g2, g3, g4, g5⟩ := cells6 m1
    obtain ⟨⟨y0, y1, y2, y3, y4, y5⟩, f0, f1, f2, f3, f4, f5⟩ := cells6 m2
    have M1 := Lib.hid m1
    have M2 := Lib.hid m2
    have B1 := Lib.hid b1
    clear m1 m2 b1
    have N2 := Lib.hid (((row_keep2 (i := 1) (v := .int .i64 now) (show w.heap.size + 1 ≠ w.heap.size by omega)).trans (row_keep2 (i := 0) (v := .int .i64 1) (show w.heap.size + 1 ≠ w.heap.size by omega))).trans M2.out)
    have B2 := Lib.hid ((B1.out.setCell (p := ⟨w.heap.size, 0, none⟩) (Nat.le_refl _) (.int .i64 1)).setCell (p := ⟨w.heap.size, 1, none⟩) (Nat.le_refl _) (.int .i64 now))
    go_wp2_with fail
    exact bodyPost_ret (results_cell_row (fn := Tryd.f14) rfl _ _ (w.heap.size + 1) 23 #[.int .i64 1, .int .i64 now, .int .i64 t.ms, .int .i64 t.wk, .int .i64 t.ls, .int .i64 t.un] (0, 0) _ rfl (six_row N2.out) Tryd.underlying23 rfl info_tryL) rfl ⟨rfl, six_below B2.out (by omega)⟩
  · have e : openP t now = t := by unfold openP; rw [if_neg h0]
    rw [e]
    have n1 : (t.st != 0) = true := by rw [bne_iff_ne]; exact h0
    clear h0 e
    obtain ⟨m1, m2, b1⟩ := two_try w t
    go_enter Tryd.func14, Tryd.ntmps14
    go_upto_region 1 with fail
    generalize hW0 : ((w.alloc (.cells (tryA t) 23)).alloc (.cells z6 23)) = W0 at *
    clear hW0
    obtain ⟨⟨x0, x1, x2, x3, x4, x5⟩, g0, g1, g2, g3, g4, g5⟩ := cells6 m1
    obtain ⟨⟨y0, y1, y2, y3, y4, y5⟩, f0, f1, f2, f3, f4, f5⟩ := cells6 m2
    have M1 := Lib.hid m1
    have M2 := Lib.hid m2
    have B1 := Lib.hid b1
    clear m1 m2 b1
    go_wp2_with fail
    exact bodyPost_ret (results_cell_row (fn := Tryd.f14) rfl _ _ (w.heap.size + 1) 23 (tryA t) (0, 0) _ rfl (six_row M2.out) Tryd.underlying23 rfl info_tryL) rfl ⟨rfl, six_below B1.out (by omega)⟩
set_option maxHeartbeats 4000000 in
set_option maxRecDepth 100000 in
theorem lbeat_is (t : TrP) (now tm : Int) (hn : smI now) (ht : smI tm) : Calls Tryd.prog 19 #[tryV t, .int .i64 now, .int .i64 tm] w fun e w' => e = .returned (tryV (beatP t now tm)) ∧ Below w.heap.size w w' := by
  unfold smI at hn ht
  obtain ⟨hn1, hn2⟩ := hn
  obtain ⟨ht1, ht2⟩ := ht
  by_cases h0 : t.st = 2
  · have e : beatP t now tm = ⟨t.st, t.sn, t.ms, t.wk, t.ls, now + tm⟩ := by unfold beatP; rw [if_pos h0]
    rw [e]
    have n1 : (t.st == 2) = true := beq_iff_eq.2 h0
    clear h0 e
    obtain ⟨m1, m2, b1⟩ := two_try w t
    go_enter Tryd.func19, Tryd.ntmps19
    go_upto_region 1 with fail
    generalize hW0 : ((w.alloc (.cells (tryA t) 23)).alloc (.cells z6 23)) = W0 at *
    clear hW0
    obtain ⟨⟨x0, x1, x2, x3, x4, x5⟩, g0, g1, g2, g3, g4, g5⟩ := cells6 m1
    obtain ⟨⟨y0, y1, y2, y3, y4, y5⟩, f0, f1, f2, f3, f4, f5⟩ := cells6 m2
    have M1 := Lib.hid m1
    have M2 := Lib.hid m2
    have B1 := Lib.hid b1
    clear m1 m2 b1
    have N2 := Lib.hid ((row_keep2 (i := 5) (v := .int .i64 (now + tm)) (show w.heap.size + 1 ≠ w.heap.size by omega)).trans M2.out)
    have B2 := Lib.hid (B1.out.setCell (p := ⟨w.heap.size, 5, none⟩) (Nat.le_refl _) (.int .i64 (now + tm)))
    go_wp2_with fail
    exact bodyPost_ret (results_cell_row (fn := Tryd.f19) rfl _ _ (w.heap.size + 1) 23 #[.int .i64 t.st, .int .i64 t.sn, .int .i64 t.ms, .int .i64 t.wk, .int .i64 t.ls, .int .i64 (now + tm)] (0, 0) _ rfl (six_row N2.out) Tryd.underlying23 rfl info_tryL) rfl ⟨rfl, six_below B2.out (by omega)⟩
  · have e : beatP t now tm = t := by unfold beatP; rw [if_neg h0]
    rw [e]
    have n1 : (t.st == 2) = false := beq_eq_false_iff_ne.2 h0
    clear h0 e
    obtain ⟨m1, m2, b1⟩ := two_try w t
    go_enter Tryd.func19, Tryd.ntmps19
    go_upto_region 1 with fail
    generalize hW0 : ((w.alloc (.cells (tryA t) 23)).alloc (.cells z6 23)) = W0 at *
    clear hW0
    obtain ⟨⟨x0, x1, x2, x3, x4, x5⟩, g0, g1, g2, g3, g4, g5⟩ := cells6 m1
    obtain ⟨⟨y0, y1, y2, y3, y4, y5⟩, f0, f1, f2, f3, f4, f5⟩ := cells6 m2
    have M1 := Lib.hid m1
    have M2 := Lib.hid m2
    have B1 := Lib.hid b1
    clear m1 m2 b1
    go_wp2_with fail
    exact bodyPost_ret (results_cell_row (fn := Tryd.f19) rfl _ _ (w.heap.size + 1) 23 (tryA t) (0, 0) _ rfl (six_row M2.out) Tryd.underlying23 rfl info_tryL) rfl ⟨rfl, six_below B1.out (by omega)⟩
set_option maxHeartbeats 4000000 in
set_option maxRecDepth 100000 in
theorem ldone_is (t : TrP) : Calls Tryd.prog 20 #[tryV t] w fun e w' => e = .returned (tryV (doneP t)) ∧ Below w.heap.size w w' := by
  by_cases h1 : t.st = 1
  · have e : doneP t = ⟨3, 0, t.ms, 0, 0, 0⟩ := by unfold doneP; rw [if_pos (.inl h1)]
    rw [e]
    have n1 : (t.st != 1) = false := by rw [bne_eq_false_iff_eq]; exact h1
    have n2 : (t.st != 2) = true := by rw [bne_iff_ne]; omega
    clear h1 e
    obtain ⟨m1, m2, b1⟩ := two_try w t
    go_enter Tryd.func20, Tryd.ntmps20
    go_upto_region 1 with fail
    generalize hW0 : ((w.alloc (.cells (tryA t) 23)).alloc (.cells z6 23)) = W0 at *
    clear hW0
    obtain ⟨⟨x0, x1, x2, x3, x4, x5⟩, g0, g1, g2, g3, g4, g5⟩ := cells6 m1
    obtain ⟨⟨y0, y1, y2, y3, y4, y5⟩, f0, f1, f2, f3, f4, f5⟩ := cells6 m2
    have M1 := Lib.hid m1
    have M2 := Lib.hid m2
    have B1 := Lib.hid b1
    clear m1 m2 b1
    go_wp2_with fail
    exact bodyPost_ret (results_cell_row (fn := Tryd.f20) rfl _ _ (w.heap.size + 1) 23 #[.int .i64 3, .int .i64 0, .int .i64 t.ms, .int .i64 0, .int .i64 0, .int .i64 0] (0, 0) _ rfl (six_row M2.out) Tryd.underlying23 rfl info_tryL) rfl ⟨rfl, six_below B1.out (by omega)⟩
  · by_cases h2 : t.st = 2
    · have e : doneP t = ⟨3, 0, t.ms, 0, 0, 0⟩ := by unfold doneP; rw [if_pos (.inr h2)]
      rw [e]
      have n2 : (t.st != 2) = false := by rw [bne_eq_false_iff_eq]; exact h2
      clear h1 h2 e
      obtain ⟨m1, m2, b1⟩ := two_try w t
      go_enter Tryd.func20, Tryd.ntmps20
      go_upto_region 1 with fail
      generalize hW0 : ((w.alloc (.cells (tryA t) 23)).alloc (.cells z6 23)) = W0 at *
      clear hW0
      obtain ⟨⟨x0, x1, x2, x3, x4, x5⟩, g0, g1, g2, g3, g4, g5⟩ := cells6 m1
      obtain ⟨⟨y0, y1, y2, y3, y4, y5⟩, f0, f1, f2, f3, f4, f5⟩ := cells6 m2
      have M1 := Lib.hid m1
      have M2 := Lib.hid m2
      have B1 := Lib.hid b1
      clear m1 m2 b1
      go_wp2_with fail
      exact bodyPost_ret (results_cell_row (fn := Tryd.f20) rfl _ _ (w.heap.size + 1) 23 #[.int .i64 3, .int .i64 0, .int .i64 t.ms, .int .i64 0, .int .i64 0, .int .i64 0] (0, 0) _ rfl (six_row M2.out) Tryd.underlying23 rfl info_tryL) rfl ⟨rfl, six_below B1.out (by omega)⟩
    · have e : doneP t = t := by unfold doneP; rw [if_neg (by simp [h1, h2])]
      rw [e]
      have n1 : (t.st != 1) = true := by rw [bne_iff_ne]; exact h1
      have n2 : (t.st != 2) = true := by rw [bne_iff_ne]; exact h2
      clear h1 h2 e
      obtain ⟨m1, m2, b1⟩ := two_try w t
      go_enter Tryd.func20, Tryd.ntmps20
      go_upto_region 1 with fail
      generalize hW0 : ((w.alloc (.cells (tryA t) 23)).alloc (.cells z6 23)) = W0 at *
      clear hW0
      obtain ⟨⟨x0, x1, x2, x3, x4, x5⟩, g0, g1, g2, g3, g4, g5⟩ := cells6 m1
      obtain ⟨⟨y0, y1, y2, y3, y4, y5⟩, f0, f1, f2, f3, f4, f5⟩ := cells6 m2
      have M1 := Lib.hid m1
      have M2 := Lib.hid m2
      have B1 := Lib.hid b1
      clear m1 m2 b1
      go_wp2_with fail
      exact bodyPost_ret (results_cell_row (fn := Tryd.f20) rfl _ _ (w.heap.size + 1) 23 (tryA t) (0, 0) _ rfl (six_row M2.out) Tryd.underlying23 rfl info_tryL) rfl ⟨rfl, six_below B1.out (by omega)⟩
set_option maxHeartbeats 4000000 in
set_option maxRecDepth 100000 in
theorem lsettle_is (t : TrP) (a r : Int) (hs : SmallT t) : Calls Tryd.prog 16 #[tryV t, .int .i64 a, .int .i64 r] w fun e w' => e = .returned (tryV (settleP t a r)) ∧ Below w.heap.size w w' := by
  by_cases h1 : t.st = 2
  · by_cases h2 : t.un ≤ a
    · have e : settleP t a r = missP t t.un r := by unfold settleP; rw [if_pos ⟨h1, h2⟩]
      rw [e]
      have n1 : (t.st != 2) = false := by rw [bne_eq_false_iff_eq]; exact h1
      have HM := Lib.hid (fun W : World => lmiss_is (w := W) t t.un r hs hs.un)
      obtain ⟨z, hz⟩ : ∃ z, z = missP t t.un r := ⟨_, rfl⟩
      rw [← hz] at HM ⊢
      clear h1 e hz hs
      obtain ⟨m1, m2, b1⟩ := two_try w t
      go_enter Tryd.func16, Tryd.ntmps16
      go_upto_region 1 with fail
      generalize hW0 : ((w.alloc (.cells (tryA t) 23)).alloc (.cells z6 23)) = W0 at *
      clear hW0
      obtain ⟨⟨x0, x1, x2, x3, x4, x5⟩, g0, g1, g2, g3, g4, g5⟩ := cells6 m1
      obtain ⟨⟨y0, y1, y2, y3, y4, y5⟩, f0, f1, f2, f3, f4, f5⟩ := cells6 m2
      have M1 := Lib.hid m1
      have M2 := Lib.hid m2
      have B1 := Lib.hid b1
      clear m1 m2 b1
      go_wp2_with fail
      refine (HM.out _).mono ?_
      rintro e w2 ⟨rfl, hb2⟩
      have N2 := Lib.hid (later_at hb2 M2.out)
      have B2 := Lib.hid (below_step B1.out hb2)
      clear hb2 x0 x1 x2 x3 x4 x5 y0 y1 y2 y3 y4 y5 g0 g1 g2 g3 g4 g5 f0 f1 f2 f3 f4 f5
      obtain ⟨⟨y0, y1, y2, y3, y4, y5⟩, f0, f1, f2, f3, f4, f5⟩ := cells6 N2.out
      go_wp2_with fail
      exact bodyPost_ret (results_cell_row (fn := Tryd.f16) rfl _ _ (w.heap.size + 1) 23 (tryA z) (0, 0) _ rfl (six_row N2.out) Tryd.underlying23 rfl info_tryL) rfl ⟨rfl, six_below B2.out (by omega)⟩
    · have e : settleP t a r = t := by unfold settleP; rw [if_neg (fun h => h2 h.2)]
      rw [e]
      have n1 : (t.st != 2) = false := by rw [bne_eq_false_iff_eq]; exact h1
      clear h1 e hs
      obtain ⟨m1, m2, b1⟩ := two_try w t
      go_enter Tryd.func16, Tryd.ntmps16
      go_upto_region 1 with fail
      generalize hW0 : ((w.alloc (.cells (tryA t) 23)).alloc (.cells z6 23)) = W0 at *
      clear hW0
      obtain ⟨⟨x0, x1, x2, x3, x4, x5⟩, g0, g1, g2, g3, g4, g5⟩ := cells6 m1
      obtain ⟨⟨y0, y1, y2, y3, y4, y5⟩, f0, f1, f2, f3, f4, f5⟩ := cells6 m2
      have M1 := Lib.hid m1
      have M2 := Lib.hid m2
      have B1 := Lib.hid b1
      clear m1 m2 b1
      go_wp2_with fail
      exact bodyPost_ret (results_cell_row (fn := Tryd.f16) rfl _ _ (w.heap.size + 1) 23 (tryA t) (0, 0) _ rfl (six_row M2.out) Tryd.underlying23 rfl info_tryL) rfl ⟨rfl, six_below B1.out (by omega)⟩
  · have e : settleP t a r = t := by unfold settleP; rw [if_neg (fun h => h1 h.1)]
    rw [e]
    have n1 : (t.st != 2) = true := by rw [bne_iff_ne]; exact h1
    clear h1 e hs
    obtain ⟨m1, m2, b1⟩ := two_try w t
    go_enter Tryd.func16, Tryd.ntmps16
    go_upto_region 1 with fail
    generalize hW0 : ((w.alloc (.cells (tryA t) 23)).alloc (.cells z6 23)) = W0 at *
    clear hW0
    obtain ⟨⟨x0, x1, x2, x3, x4, x5⟩, g0, g1, g2, g3, g4, g5⟩ := cells6 m1
    obtain ⟨⟨y0, y1, y2, y3, y4, y5⟩, f0, f1, f2, f3, f4, f5⟩ := cells6 m2
    have M1 := Lib.hid m1
    have M2 := Lib.hid m2
    have B1 := Lib.hid b1
    clear m1 m2 b1
    go_wp2_with fail
    exact bodyPost_ret (results_cell_row (fn := Tryd.f16) rfl _ _ (w.heap.size + 1) 23 (tryA t) (0, 0) _ rfl (six_row M2.out) Tryd.underlying23 rfl info_tryL) rfl ⟨rfl, six_below B1.out (by omega)⟩
set_option maxHeartbeats 4000000 in
set_option maxRecDepth 100000 in
theorem ltake_is (t : TrP) (now wk ls tm : Int) (hn : smI now) (ht : smI tm) : Calls Tryd.prog 15 #[tryV t, .int .i64 now, .int .i64 wk, .int .i64 ls, .int .i64 tm] w fun e w' => e = .returned (.tuple #[tryV (takeP t now wk ls tm).1, .int .i64 (takeP t now wk ls tm).2]) ∧ Below w.heap.size w w' := by
  unfold smI at hn ht
  obtain ⟨hn1, hn2⟩ := hn
  obtain ⟨ht1, ht2⟩ := ht
  by_cases h1 : t.st = 1
  · by_cases h2 : now < t.sn
    · have e : takeP t now wk ls tm = (noTr, 12) := by unfold takeP; rw [if_pos (.inr h2)]
      rw [e]
      have n1 : (t.st != 1) = false := by rw [bne_eq_false_iff_eq]; exact h1
      clear h1 e
      obtain ⟨m1, m2, b1⟩ := two_try w t
      go_enter Tryd.func15, Tryd.ntmps15
      go_upto_region 1 with fail
      generalize hW0 : ((w.alloc (.cells (tryA t) 23)).alloc (.cells z6 23)) = W0 at *
      clear hW0
      obtain ⟨⟨x0, x1, x2, x3, x4, x5⟩, g0, g1, g2, g3, g4, g5⟩ := cells6 m1
      obtain ⟨⟨y0, y1, y2, y3, y4, y5⟩, f0, f1, f2, f3, f4, f5⟩ := cells6 m2
      have M1 := Lib.hid m1
      have M2 := Lib.hid m2
      have B1 := Lib.hid b1
      clear m1 m2 b1
      go_wp2_with fail
      exact bodyPost_ret (results_cell_tmp (fn := Tryd.f15) rfl _ _ (w.heap.size + 1) 23 z6 (0, 0) _ rfl (six_row M2.out) Tryd.underlying23 rfl info_tryL) rfl ⟨rfl, six_below B1.out (by omega)⟩
    · have e : takeP t now wk ls tm = (⟨2, 0, t.ms, wk, ls, now + tm⟩, 0) := by unfold takeP; rw [if_neg (by simp [h1]; omega)]
      rw [e]
      have n1 : (t.st != 1) = false := by rw [bne_eq_false_iff_eq]; exact h1
      clear h1 e
      obtain ⟨m1, m2, b1⟩ := two_try w t
      go_enter Tryd.func15, Tryd.ntmps15
      go_upto_region 1 with fail
      generalize hW0 : ((w.alloc (.cells (tryA t) 23)).alloc (.cells z6 23)) = W0 at *
      clear hW0
      obtain ⟨⟨x0, x1, x2, x3, x4, x5⟩, g0, g1, g2, g3, g4, g5⟩ := cells6 m1
      obtain ⟨⟨y0, y1, y2, y3, y4, y5⟩, f0, f1, f2, f3, f4, f5⟩ := cells6 m2
      have M1 := Lib.hid m1
      have M2 := Lib.hid m2
      have B1 := Lib.hid b1
      clear m1 m2 b1
      go_wp2_with fail
      exact bodyPost_ret (results_cell_tmp (fn := Tryd.f15) rfl _ _ (w.heap.size + 1) 23 #[.int .i64 2, .int .i64 0, .int .i64 t.ms, .int .i64 wk, .int .i64 ls, .int .i64 (now + tm)] (0, 0) _ rfl (six_row M2.out) Tryd.underlying23 rfl info_tryL) rfl ⟨rfl, six_below B1.out (by omega)⟩
  · have e : takeP t now wk ls tm = (noTr, 12) := by unfold takeP; rw [if_pos (.inl h1)]
    rw [e]
    have n1 : (t.st != 1) = true := by rw [bne_iff_ne]; exact h1
    clear h1 e
    obtain ⟨m1, m2, b1⟩ := two_try w t
    go_enter Tryd.func15, Tryd.ntmps15
    go_upto_region 1 with fail
    generalize hW0 : ((w.alloc (.cells (tryA t) 23)).alloc (.cells z6 23)) = W0 at *
    clear hW0
    obtain ⟨⟨x0, x1, x2, x3, x4, x5⟩, g0, g1, g2, g3, g4, g5⟩ := cells6 m1
    obtain ⟨⟨y0, y1, y2, y3, y4, y5⟩, f0, f1, f2, f3, f4, f5⟩ := cells6 m2
    have M1 := Lib.hid m1
    have M2 := Lib.hid m2
    have B1 := Lib.hid b1
    clear m1 m2 b1
    go_wp2_with fail
    exact bodyPost_ret (results_cell_tmp (fn := Tryd.f15) rfl _ _ (w.heap.size + 1) 23 z6 (0, 0) _ rfl (six_row M2.out) Tryd.underlying23 rfl info_tryL) rfl ⟨rfl, six_below B1.out (by omega)⟩
set_option maxHeartbeats 4000000 in
set_option maxRecDepth 100000 in
theorem lholds_is (t : TrP) (now wk ls : Int) : Calls Tryd.prog 18 #[tryV t, .int .i64 now, .int .i64 wk, .int .i64 ls] w fun e w' => e = .returned (.bool (holdsP t now wk ls)) ∧ Below w.heap.size w w' := by
  obtain ⟨b1, n1⟩ : ∃ b, (t.st == 2) = b := ⟨_, rfl⟩
  obtain ⟨b2, n2⟩ : ∃ b, (t.wk == wk) = b := ⟨_, rfl⟩
  obtain ⟨b3, n3⟩ : ∃ b, (t.ls == ls) = b := ⟨_, rfl⟩
  have hv : holdsP t now wk ls = (b1 && b2 && b3 && decide (now < t.un)) := by rw [← n1, ← n2, ← n3]; rfl
  rw [hv]
  clear hv
  have m1 := made_at w (.cells (tryA t) 23)
  have HB := Lib.hid ((Below.refl w.heap.size w).alloc (Nat.le_refl _) (.cells (tryA t) 23))
  obtain ⟨⟨x0, x1, x2, x3, x4, x5⟩, _⟩ := cells6 m1
  clear m1
  cases b1 with
  | false =>
    go_enter Tryd.func18, Tryd.ntmps18
    go_wp2_with fail
    go_ret
    exact ⟨by first | rfl | simp, HB.out⟩
  | true =>
  cases b2 with
  | false =>
    go_enter Tryd.func18, Tryd.ntmps18
    go_wp2_with fail
    go_ret
    exact ⟨by first | rfl | simp, HB.out⟩
  | true =>
  cases b3 with
  | false =>
    go_enter Tryd.func18, Tryd.ntmps18
    go_wp2_with fail
    go_ret
    exact ⟨by first | rfl | simp, HB.out⟩
  | true =>
    go_enter Tryd.func18, Tryd.ntmps18
    go_wp2_with fail
    go_ret
    exact ⟨by first | rfl | simp, HB.out⟩
theorem lease_ok : LeaseOk where
  open_ := fun t now _ _ => lopen_is t now
  miss := fun t a r hs ha _ => lmiss_is t a r hs ha
  settle := fun t a r hs _ _ => lsettle_is t a r hs
  take := fun t now wk ls tm _ h1 h2 => ltake_is t now wk ls tm h1 h2
  holds := fun t now wk ls => lholds_is t now wk ls
  beat := fun t now tm _ h1 h2 => lbeat_is t now tm h1 h2
  done := fun t => ldone_is t
  right := fun t => lright_is t
end
end Go.Proofs.YtbenehdikigbaaaDoor
