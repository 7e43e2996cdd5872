/-
  The program's own, fault, mayStand and isName. Conditions: lengths.
-/
import Derived.Test.YtcddbpdebklhnaaGreatDoorManP
import Derived.Test.YtcddbpdebklhnaaGreatDoorLexI
import Derived.Test.YtcddbpdebklhnaaGreatDoorLexE
import Derived.Test.YtcddbpdebklhnaaGreatDoorLexD
import Derived.Test.YtcddbpdebklhnaaGreatDoorClone
namespace Go.Proofs.YtcddbpdebklhnaaGreatDoor
open Go.RowKit

theorem info_word : (Tryz.prog.info? 126).map (·.size) = some 2 := by kernel_rfl
section
variable {w : World}
set_option maxHeartbeats 1000000 in
set_option maxRecDepth 100000 in
theorem own_is (w : World) (t : ByteArray) (p : Int) (ht : t.size ≤ 1000000000) : Calls Tryz.prog 79 #[wdV t p] w fun e w' => e = .returned (wdV t p) ∧ Below w.heap.size w w' := by
  have HC := Lib.hid (fun W : World => clone_is W t ht)
  clear ht
  go_enter Tryz.func79, Tryz.ntmps79
  go_wp2_with fail
  have m1 := later_at ((Below.refl _ _).alloc (Nat.le_refl _) (.cells #[.string ⟨#[]⟩, .int .i64 0] 126)) (made_at w (.cells #[.string t, .int .i64 p] 126))
  have m2 := made_at (w.alloc (.cells #[.string t, .int .i64 p] 126)) (.cells #[.string ⟨#[]⟩, .int .i64 0] 126)
  have b1 := ((Below.refl w.heap.size w).alloc (Nat.le_refl _) (.cells #[.string t, .int .i64 p] 126)).alloc (by simp) (.cells #[.string ⟨#[]⟩, .int .i64 0] 126)
  rw [World.size_alloc] at m2
  obtain ⟨W0, hW0⟩ : ∃ W0, (w.alloc (.cells #[.string t, .int .i64 p] 126)).alloc (.cells #[.string ⟨#[]⟩, .int .i64 0] 126) = W0 := ⟨_, rfl⟩
  rw [hW0] at m1 m2 b1 ⊢
  clear hW0
  have x0 := cellH m1 0
  have x1 := cellH m1 1
  simp at x0 x1
  have M1 := Lib.hid m1
  have M2 := Lib.hid m2
  have B1 := Lib.hid b1
  clear m1 m2 b1
  go_region_with (go_at_call 82; refine (HC.out _).mono ?_; rintro e w1 ⟨rfl, hb⟩; have N1 := Lib.hid (later_at hb (show W0.drew.heap[w.heap.size]? = _ from M1.out)); have N2 := Lib.hid (later_at hb (show W0.drew.heap[w.heap.size + 1]? = _ from M2.out)); have NB := Lib.hid ((B1.out.drew).trans (hb.mono B1.out.size)); clear x0 x1 hb; have x1 := cellH N1.out 1; have y0 := cellH N2.out 0; have y1 := cellH N2.out 1; have f0 := freeH N2.out 0; have f1 := freeH N2.out 1; simp at x1 y0 y1)
  all_goals
    have R := Lib.hid (row_set (i := 1) (v := .int .i64 p) (row_set (i := 0) (v := .string t) N2.out))
    have NB2 := Lib.hid ((NB.out.setCell (p := ⟨w.heap.size + 1, 0, none⟩) (by show w.heap.size ≤ w.heap.size + 1; omega) (.string t)).setCell (p := ⟨w.heap.size + 1, 1, none⟩) (by show w.heap.size ≤ w.heap.size + 1; omega) (.int .i64 p))
    clear x1 y0 y1 f0 f1
    go_wp2_with fail
    exact bodyPost_ret (results_cell_row (fn := Tryz.f79) rfl _ _ (w.heap.size + 1) 126 #[.string t, .int .i64 p] (0, 0) _ rfl (R.out.trans (by simp)) Tryz.underlying126 rfl info_word) rfl ⟨rfl, NB2.out⟩
set_option maxHeartbeats 1000000 in
set_option maxRecDepth 100000 in
theorem fault_is (w : World) (a e : Int) : Calls Tryz.prog 78 #[.int .i64 a, .int .i64 e] w fun x w' => ∃ F, x = .returned (fltV F) ∧ FaultAt w' F a e ∧ w.heap.size ≤ F ∧ Below w.heap.size w w' := by
  go_enter Tryz.func78, Tryz.ntmps78
  go_wp2_with fail
  go_ret
  exact ⟨_, rfl, made_at _ _, Nat.le_refl _, (Below.refl _ _).alloc (Nat.le_refl _) _⟩
set_option maxHeartbeats 1000000 in
set_option maxRecDepth 100000 in
theorem isname_is (s : ByteArray) (w : World) : Calls Tryz.prog 77 #[.string s] w fun e w' => e = .returned (.bool (nameP s)) ∧ w = w' := by
  obtain ⟨b, hb⟩ : ∃ b, b = nameP s := ⟨_, rfl⟩
  rw [← hb]
  have HB := Lib.hid hb
  have HBY := Lib.hid (byL_at s)
  clear hb
  by_cases h0 : s.size = 0
  · obtain rfl := size_zero.1 h0
    have HV := Lib.hid (show b = false from HB.out.trans (by decide))
    go_enter Tryz.func77, Tryz.ntmps77
    go_wp2_with fail
    go_ret
    exact ⟨by rw [HV.out]; rfl, rfl⟩
  · have e0 : s.toList.isEmpty = false := ba_some (fun h => h0 (size_zero.2 h))
    by_cases h8 : 8 < s.size
    · have HV := Lib.hid (show b = false from HB.out.trans (decide_eq_false (fun h => by have := h.2.1; omega)))
      go_enter Tryz.func77, Tryz.ntmps77
      go_wp2_with fail
      go_ret
      exact ⟨by rw [HV.out]; rfl, rfl⟩
    · go_enter Tryz.func77, Tryz.ntmps77
      go_wp2_with fail
      go_loopw [13] (fun i wr => ∃ k : Nat, i = .int .i64 k ∧ k ≤ s.size ∧ wr = w ∧ ∀ j, j < k → 97 ≤ byL s j ∧ byL s j ≤ 122) (fun i _ => s.size - (intOf i).toNat)
      case atStart => exact ⟨0, rfl, Nat.zero_le _, rfl, fun j h => absurd h (by omega)⟩
      case round =>
        obtain ⟨k, rfl, hk, rfl, hall⟩ := hrel
        have HALL := Lib.hid hall
        clear hall
        by_cases hlt : k < s.size
        · have hB : ∀ h : k < s.size, ((s[k]'h).toNat : Int) = byL s k := HBY.out k
          by_cases h1 : byL s k < 97
          · have HV := Lib.hid (show b = false from HB.out.trans (decide_eq_false (fun h => by have := h.2.2 k hlt; omega)))
            go_wp2_with fail
            go_ret
            exact ⟨by rw [HV.out]; rfl, rfl⟩
          · by_cases h2 : 122 < byL s k
            · have HV := Lib.hid (show b = false from HB.out.trans (decide_eq_false (fun h => by have := h.2.2 k hlt; omega)))
              go_wp2_with fail
              go_ret
              exact ⟨by rw [HV.out]; rfl, rfl⟩
            · go_wp2_with fail
              go_roundw
              case rel => exact ⟨k + 1, by go_num, by omega, trivial, fun j hj => by
                rcases Nat.lt_or_ge j k with h | h
                · exact HALL.out j h
                · obtain rfl : j = k := by omega
                  omega⟩
              case measure => simp [intOf]; omega
        · obtain rfl : k = s.size := by omega
          have HV := Lib.hid (show b = true from HB.out.trans (decide_eq_true ⟨by omega, by omega, HALL.out⟩))
          go_wp2_with fail
          go_ret
          exact ⟨by rw [HV.out]; rfl, rfl⟩
end
end Go.Proofs.YtcddbpdebklhnaaGreatDoor
