/-
  What the document's Reader.Int of one that has met something wrong, and its Reader.Text (package lockageref06), answer and leave. No conditions but how the reader lies, and a text's length.
-/
import Derived.Test.YtnajbcbdncmbbaaDoorCodC
namespace Go.Proofs.YtnajbcbdncmbbaaDoor
open Go.RowKit

section
variable {w : World} {R : Nat} {S : ByteArray}
set_option maxHeartbeats 4000000 in
set_option maxRecDepth 100000 in
theorem refrint_bad (h : w.heap[R]? = some (.cells #[.string S, .bool true] 45 (0, 0))) (lo hi : Int) (hS : S.size ≤ 1000000) :
    Calls Tryd.prog 22 #[.pointer (some ⟨R, 0, none⟩), .int .i64 lo, .int .i64 hi] w fun e w' => e = .returned (.int .i64 0) ∧ w'.heap[R]? = some (.cells #[.string S, .bool true] 45 (0, 0)) ∧ Only1 R w w' := by
  have z0 := cellH h 0
  have z1 := cellH h 1
  have zf := freeH h
  simp at z0 z1
  have hB : ∀ (i : Nat) (h : i < S.size), ((S[i]'h).toNat : Int) = byI S i := byI_at S
  have NONE := Lib.hid (show (w.setCell ⟨R, 1, none⟩ (.bool true)).heap[R]? = some (.cells #[.string S, .bool true] 45 (0, 0)) by rw [row_set h]; rfl)
  clear h
  go_enter Tryd.func22, Tryd.ntmps22
  go_wp2_with fail
  go_loopw [8] (fun a wr => ∃ k : Nat, a = .int .i64 k ∧ k ≤ 21 ∧ k ≤ S.size ∧ wr = w) (fun a _ => 22 - (intOf a).toNat)
  case atStart => exact ⟨0, rfl, by omega, by omega, rfl⟩
  case round =>
    obtain ⟨k, rfl, hk, hks, hw⟩ := hrel
    subst hw
    by_cases hlt : k < S.size
    · by_cases hc : byI S k = 44
      · go_wp2_with fail
        go_ret
        exact ⟨rfl, NONE.out, Only1.set _⟩
      · have hcb : (byI S k != 44) = true := bne_iff_ne.2 hc
        by_cases h21 : k < 21
        · go_wp2_with fail
          go_roundw
          case rel => exact ⟨k + 1, by go_num, by omega, by omega, by first | rfl | trivial⟩
          case measure => simp [intOf]; omega
        · go_wp2_with fail
          go_ret
          exact ⟨rfl, NONE.out, Only1.set _⟩
    · go_wp2_with fail
      go_ret
      exact ⟨rfl, NONE.out, Only1.set _⟩
/-- What a Text answers, what it leaves, and whether something is wrong then. -/
def rtT (r : Option (Int × List UInt8)) : ByteArray := match r with | some (n, x) => if (x.length : Int) < n then .empty else ofL (x.take n.toNat) | none => .empty
def rtS (S : ByteArray) (r : Option (Int × List UInt8)) : ByteArray := match r with | some (n, x) => if (x.length : Int) < n then ofL x else ofL (x.drop n.toNat) | none => S
def rtB (r : Option (Int × List UInt8)) : Bool := match r with | some (n, x) => decide ((x.length : Int) < n) | none => true
set_option maxHeartbeats 4000000 in
set_option maxRecDepth 100000 in
theorem reftext_bad (h : w.heap[R]? = some (.cells #[.string S, .bool true] 45 (0, 0))) (most : Int) (hS : S.size ≤ 1000000) :
    Calls Tryd.prog 23 #[.pointer (some ⟨R, 0, none⟩), .int .i64 most] w fun e w' => e = .returned (.string .empty) ∧ w'.heap[R]? = some (.cells #[.string S, .bool true] 45 (0, 0)) ∧ Only1 R w w' := by
  have CALL := Lib.hid (refrint_bad h 0 most hS)
  clear h
  go_enter Tryd.func23, Tryd.ntmps23
  go_wp2_with fail
  refine CALL.out.mono ?_
  rintro e w1 ⟨rfl, hb, hO⟩
  have HB := Lib.hid hb
  have HO := Lib.hid hO
  have z0 := cellH hb 0
  have z1 := cellH hb 1
  have zf := freeH hb
  simp at z0 z1
  clear hb hO CALL
  go_wp2_with fail
  go_ret
  exact ⟨rfl, by rw [row_set HB.out]; rfl, HO.out.trans (Only1.set _)⟩
set_option maxHeartbeats 4000000 in
set_option maxRecDepth 100000 in
theorem reftext_good (h : w.heap[R]? = some (.cells #[.string S, .bool false] 45 (0, 0))) (most : Int) (r : Option (Int × List UInt8)) (hr : Takes (bl S) 0 most r) (hS : S.size ≤ 1000000) :
    Calls Tryd.prog 23 #[.pointer (some ⟨R, 0, none⟩), .int .i64 most] w fun e w' => e = .returned (.string (rtT r)) ∧ w'.heap[R]? = some (.cells #[.string (rtS S r), .bool (rtB r)] 45 (0, 0)) ∧ Only1 R w w' := by
  have CALL := Lib.hid (refrint_good h 0 most r hr hS)
  have HR := Lib.hid hr
  clear h hr
  go_enter Tryd.func23, Tryd.ntmps23
  go_wp2_with fail
  refine CALL.out.mono ?_
  rintro e w1 ⟨rfl, hb, hO⟩
  have HO := Lib.hid hO
  clear hO CALL
  cases r with
  | none =>
    have HB := Lib.hid hb
    simp only [rdS, rdN, Option.isNone_none] at hb ⊢
    have z0 := cellH hb 0
    have z1 := cellH hb 1
    have zf := freeH hb
    simp at z0 z1
    clear hb
    go_wp2_with fail
    go_ret
    exact ⟨rfl, by rw [row_set HB.out]; rfl, HO.out.trans (Only1.set _)⟩
  | some q =>
    obtain ⟨n, x⟩ := q
    have h0 : 0 ≤ n := by
      rcases HR.out with ⟨m, y, _, _, _, a4, _, e⟩ | ⟨_, e⟩
      · obtain ⟨rfl, rfl⟩ := Prod.mk.inj (Option.some.inj e); exact a4
      · cases e
    have h1 : x.length ≤ 1000000 := by
      rcases HR.out with ⟨m, y, _, _, a3, _, _, e⟩ | ⟨_, e⟩
      · obtain ⟨rfl, rfl⟩ := Prod.mk.inj (Option.some.inj e)
        have := congrArg List.length a3
        rw [bl_len, List.length_append] at this
        omega
      · cases e
    have hsz : (ofL x).size = x.length := by rw [← bl_len, bl_ofL]
    obtain ⟨X, hX⟩ : ∃ X : ByteArray, X = ofL x := ⟨_, rfl⟩
    simp only [rdS, rdN, Option.isNone_some] at hb ⊢
    rw [← hX] at hb hsz
    have HB := Lib.hid hb
    have z0 := cellH hb 0
    have z1 := cellH hb 1
    have zf := freeH hb
    simp at z0 z1
    have HX := Lib.hid hX
    clear hb hX HR
    by_cases hgt : (X.size : Int) < n
    · have hgt2 : (x.length : Int) < n := by omega
      go_wp2_with fail
      go_ret
      exact ⟨by simp only [rtT, if_pos hgt2]; rfl, by rw [row_set HB.out]; simp only [rtS, rtB, if_pos hgt2, decide_eq_true hgt2, HX.out]; rfl, HO.out.trans (Only1.set _)⟩
    · have hgt2 : ¬ (x.length : Int) < n := by omega
      obtain ⟨m, rfl⟩ : ∃ m : Nat, n = m := ⟨n.toNat, by omega⟩
      have E1 := Lib.hid (show rtT (some ((m : Int), x)) = X.extract 0 m by
        apply bl_inj
        simp only [rtT, if_neg hgt2, Int.toNat_natCast]
        rw [bl_extract, HX.out, bl_ofL, bl_ofL, List.drop_zero])
      have E2 := Lib.hid (show rtS S (some ((m : Int), x)) = X.extract m x.length by
        apply bl_inj
        simp only [rtS, if_neg hgt2, Int.toNat_natCast]
        rw [bl_extract, HX.out, bl_ofL, bl_ofL, List.take_of_length_le (Nat.le_refl _)])
      have E3 := Lib.hid (show rtB (some ((m : Int), x)) = false from decide_eq_false hgt2)
      go_wp2_with fail
      go_ret
      exact ⟨by rw [E1.out]; rfl, by rw [row_set HB.out, E2.out, E3.out]; rfl, HO.out.trans (Only1.set _)⟩
end
end Go.Proofs.YtnajbcbdncmbbaaDoor
