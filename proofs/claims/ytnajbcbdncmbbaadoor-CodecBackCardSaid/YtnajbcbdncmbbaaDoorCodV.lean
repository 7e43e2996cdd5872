/-
  The program's Reader: Text and Label. Conditions: how the Reader lies, what the package-level variables hold, a text's length.
-/
import Derived.Test.YtnajbcbdncmbbaaDoorCodU
namespace Go.Proofs.YtnajbcbdncmbbaaDoor
open Go.RowKit
section
variable {w : World} {R : Nat} {s : ByteArray} {b : Bool}
set_option maxHeartbeats 2000000 in
set_option maxRecDepth 100000 in
theorem text_none (h : RdAt w R s b) (hV : VarsAt w) (most : Int) (r : Option (Int × List UInt8)) (hr : Takes (bl s) 0 most r) (hS : s.size ≤ 1000000000) (hb : iB b r = true) :
    Calls Tryd.prog 18 #[.pointer (some ⟨R, 0, none⟩), .int .i64 most] w fun e w' => e = .returned (.string .empty) ∧ RdAt w' R (iS s b r) true ∧ Only1 R w w' := by
  have HI := Lib.hid (int_is h hV 0 most r hr hS)
  rw [hb] at HI
  clear h hV hr hb
  go_enter Tryd.func18, Tryd.ntmps18
  go_wp2_with fail
  refine HI.out.mono ?_
  rintro e w1 ⟨rfl, h1, ho1⟩
  have H1 := Lib.hid h1
  have HO1 := Lib.hid ho1
  clear h1 ho1 HI
  go_wp2_with fail
  refine (ok_is H1.out).mono ?_
  rintro e w2 ⟨rfl, rfl⟩
  go_wp2_with fail
  go_ret
  exact ⟨rfl, H1.out, HO1.out⟩
set_option maxHeartbeats 2000000 in
set_option maxRecDepth 100000 in
theorem text_some (h : RdAt w R s false) (hV : VarsAt w) (most : Int) (n : Int) (x : List UInt8) (hr : Takes (bl s) 0 most (some (n, x))) (hS : s.size ≤ 1000000000) :
    Calls Tryd.prog 18 #[.pointer (some ⟨R, 0, none⟩), .int .i64 most] w fun e w' => e = .returned (.string (rtT (some (n, x)))) ∧ RdAt w' R (rtS s (some (n, x))) (rtB (some (n, x))) ∧ Only1 R w w' := by
  have HI := Lib.hid (int_is h hV 0 most _ hr hS)
  have h0 : 0 ≤ n := by
    rcases hr with ⟨m, y, _, _, _, a4, _, e⟩ | ⟨_, e⟩
    · obtain ⟨rfl, rfl⟩ := Prod.mk.inj (Option.some.inj e); exact a4
    · cases e
  have h1 : x.length ≤ 1000000000 := by
    have := takes_len hr
    omega
  have hsz : (ofL x).size = x.length := by rw [← bl_len, bl_ofL]
  have e1 : iS s false (some (n, x)) = ofL x := rfl
  have e2 : iV false (some (n, x)) = n := rfl
  have e3 : iB false (some (n, x)) = false := rfl
  rw [e1, e2, e3] at HI
  clear h hV hr e1 e2 e3
  obtain ⟨X, hX⟩ : ∃ X : ByteArray, X = ofL x := ⟨_, rfl⟩
  rw [← hX] at HI hsz
  have HX := Lib.hid hX
  clear hX
  go_enter Tryd.func18, Tryd.ntmps18
  go_wp2_with fail
  refine HI.out.mono ?_
  rintro e w1 ⟨rfl, g1, ho1⟩
  have H1 := Lib.hid g1
  have HO1 := Lib.hid ho1
  clear g1 ho1 HI
  go_wp2_with fail
  refine (ok_is H1.out).mono ?_
  rintro e w2 ⟨rfl, rfl⟩
  have zf := freeH H1.out
  have z1 := cellH H1.out 1
  have z0 := cellH H1.out 0
  simp at z1 z0
  by_cases hgt : (X.size : Int) < n
  · have hgt2 : (x.length : Int) < n := by omega
    go_wp2_with fail
    go_ret
    refine ⟨by simp only [rtT, if_pos hgt2]; rfl, ?_, HO1.out.trans (Only1.set _)⟩
    simp only [rtS, rtB, if_pos hgt2, decide_eq_true hgt2]
    rw [← HX.out]
    exact set_wrong H1.out
  · have hgt2 : ¬ (x.length : Int) < n := by omega
    obtain ⟨m, rfl⟩ : ∃ m : Nat, n = m := ⟨n.toNat, by omega⟩
    have hm : m ≤ X.size := by omega
    have E1 := Lib.hid (show rtT (some ((m : Int), x)) = X.extract 0 m by
      apply bl_inj
      simp only [rtT, if_neg hgt2, Int.toNat_natCast]
      rw [bl_extract, HX.out, bl_ofL, bl_ofL, List.drop_zero])
    have E2 := Lib.hid (show rtS s (some ((m : Int), x)) = X.extract m x.length by
      apply bl_inj
      simp only [rtS, if_neg hgt2, Int.toNat_natCast]
      rw [bl_extract, HX.out, bl_ofL, bl_ofL, List.take_of_length_le (Nat.le_refl _)])
    have E3 := Lib.hid (show rtB (some ((m : Int), x)) = false from decide_eq_false hgt2)
    have hxe : x.length = X.size := hsz.symm
    rw [hxe] at E2
    clear hsz HX hxe
    go_wp2_with fail
    have hp := set_left H1.out (X.extract m X.size)
    refine (clone_is _ (X.extract 0 m) (by rw [ByteArray.size_extract]; omega)).mono ?_
    rintro e w3 ⟨rfl, hb3⟩
    have HP := Lib.hid (hp.below hb3)
    have HO3 := Lib.hid (Only1.of_below (R := R) hb3)
    clear hp hb3
    go_wp2_with fail
    go_ret
    exact ⟨by rw [E1.out]; rfl, by rw [E2.out, E3.out]; exact HP.out, (HO1.out.trans (Only1.set _)).trans HO3.out⟩
theorem text_is (h : RdAt w R s b) (hV : VarsAt w) (most : Int) (r : Option (Int × List UInt8)) (hr : Takes (bl s) 0 most r) (hS : s.size ≤ 1000000000) :
    Calls Tryd.prog 18 #[.pointer (some ⟨R, 0, none⟩), .int .i64 most] w fun e w' => e = .returned (.string (tV b r)) ∧ RdAt w' R (tS s b r) (tB b r) ∧ Only1 R w w' := by
  cases b with
  | true => exact text_none h hV most r hr hS rfl
  | false =>
    cases r with
    | none => exact text_none h hV most none hr hS rfl
    | some q => exact text_some h hV most q.1 q.2 hr hS
end
end Go.Proofs.YtnajbcbdncmbbaaDoor
