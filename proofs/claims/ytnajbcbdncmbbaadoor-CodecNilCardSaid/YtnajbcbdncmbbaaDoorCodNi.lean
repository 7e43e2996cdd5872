/-
  The law CodecNil, walked: what a Writer and a Reader that are none do. No conditions but what the package-level variables hold.
-/
import Derived.Test.YtnajbcbdncmbbaaDoorCodM
namespace Go.Proofs.YtnajbcbdncmbbaaDoor
open Go.RowKit

/-- A Writer, or a Reader, that is none does nothing. -/
structure NilC : Prop where
  wint : ∀ (A : Option Addr) (n c : Nat) (w : World), Calls Tryd.prog 10 #[.pointer none, .slice A n c] w fun e w' => e = .returned (.tuple #[]) ∧ Below w.heap.size w w'
  wtext : ∀ (A : Option Addr) (n c : Nat) (w : World), Calls Tryd.prog 12 #[.pointer none, .slice A n c] w fun e w' => e = .returned (.tuple #[]) ∧ Below w.heap.size w w'
  wlabel : ∀ (a b : Int) (w : World), Calls Tryd.prog 14 #[.pointer none, .agg #[.int .i64 a, .int .u16 b]] w fun e w' => e = .returned (.tuple #[]) ∧ Below w.heap.size w w'
  wstr : ∀ w : World, Calls Tryd.prog 15 #[.pointer none] w fun e w' => e = .returned (.string .empty) ∧ Below w.heap.size w w'
  rint : ∀ (lo hi : Int) (w : World), Calls Tryd.prog 17 #[.pointer none, .int .i64 lo, .int .i64 hi] w fun e w' => e = .returned (.int .i64 0) ∧ Below w.heap.size w w'
  rtext : ∀ (most : Int) (w : World), Calls Tryd.prog 18 #[.pointer none, .int .i64 most] w fun e w' => e = .returned (.string .empty) ∧ Below w.heap.size w w'
  rlabel : ∀ w : World, Calls Tryd.prog 19 #[.pointer none] w fun e w' => e = .returned (.agg #[.int .i64 0, .int .u16 0]) ∧ Below w.heap.size w w'
  rok : ∀ w : World, Calls Tryd.prog 20 #[.pointer none] w fun e w' => e = .returned (.bool false) ∧ Below w.heap.size w w'
  rdone : ∀ w : World, Calls Tryd.prog 21 #[.pointer none] w fun e w' => e = .returned (.bool false) ∧ Below w.heap.size w w'

section
variable {w : World} {A : Option Addr} {n c : Nat} {lo hi : Int}
set_option maxHeartbeats 1000000 in
set_option maxRecDepth 100000 in
theorem nwint : Calls Tryd.prog 10 #[.pointer none, .slice A n c] w fun e w' => e = .returned (.tuple #[]) ∧ w = w' := by
  go_enter Tryd.func10, Tryd.ntmps10
  go_wp2_with fail
  refine bodyPost_ret (by simp [results, Tryd.results10]) rfl ⟨rfl, rfl⟩
set_option maxHeartbeats 1000000 in
set_option maxRecDepth 100000 in
theorem nwtext : Calls Tryd.prog 12 #[.pointer none, .slice A n c] w fun e w' => e = .returned (.tuple #[]) ∧ w = w' := by
  go_enter Tryd.func12, Tryd.ntmps12
  go_wp2_with fail
  refine bodyPost_ret (by simp [results, Tryd.results12]) rfl ⟨rfl, rfl⟩
set_option maxHeartbeats 1000000 in
set_option maxRecDepth 100000 in
theorem nwstr : Calls Tryd.prog 15 #[.pointer none] w fun e w' => e = .returned (.string .empty) ∧ w = w' := by
  go_enter Tryd.func15, Tryd.ntmps15
  go_wp2_with fail
  go_ret
  exact ⟨rfl, rfl⟩
set_option maxHeartbeats 1000000 in
set_option maxRecDepth 100000 in
theorem nrok : Calls Tryd.prog 20 #[.pointer none] w fun e w' => e = .returned (.bool false) ∧ w = w' := by
  go_enter Tryd.func20, Tryd.ntmps20
  go_wp2_with fail
  go_ret
  exact ⟨rfl, rfl⟩
set_option maxHeartbeats 1000000 in
set_option maxRecDepth 100000 in
theorem nrdone : Calls Tryd.prog 21 #[.pointer none] w fun e w' => e = .returned (.bool false) ∧ w = w' := by
  go_enter Tryd.func21, Tryd.ntmps21
  go_wp2_with fail
  refine nrok.mono ?_
  rintro e w1 ⟨rfl, rfl⟩
  go_wp2_with fail
  go_ret
  exact ⟨rfl, rfl⟩
set_option maxHeartbeats 1000000 in
set_option maxRecDepth 100000 in
theorem nrint : Calls Tryd.prog 17 #[.pointer none, .int .i64 lo, .int .i64 hi] w fun e w' => e = .returned (.int .i64 0) ∧ w = w' := by
  go_enter Tryd.func17, Tryd.ntmps17
  go_wp2_with fail
  refine nrok.mono ?_
  rintro e w1 ⟨rfl, rfl⟩
  go_wp2_with fail
  go_ret
  exact ⟨rfl, rfl⟩
set_option maxHeartbeats 1000000 in
set_option maxRecDepth 100000 in
theorem nrtext : Calls Tryd.prog 18 #[.pointer none, .int .i64 hi] w fun e w' => e = .returned (.string .empty) ∧ w = w' := by
  go_enter Tryd.func18, Tryd.ntmps18
  go_wp2_with fail
  refine nrint.mono ?_
  rintro e w1 ⟨rfl, rfl⟩
  go_wp2_with fail
  refine nrok.mono ?_
  rintro e w1 ⟨rfl, rfl⟩
  go_wp2_with fail
  go_ret
  exact ⟨rfl, rfl⟩
set_option maxHeartbeats 1000000 in
set_option maxRecDepth 100000 in
theorem nwlabel (a b : Int) : Calls Tryd.prog 14 #[.pointer none, .agg #[.int .i64 a, .int .u16 b]] w fun e w' => e = .returned (.tuple #[]) ∧ Below w.heap.size w w' := by
  have l1 := (Below.refl w.heap.size w).alloc (Nat.le_refl _) (.cells #[.int .i64 a, .int .u16 b] 30)
  have HL := Lib.hid (below_step l1 ((Below.refl _ (w.alloc (.cells #[.int .i64 a, .int .u16 b] 30))).alloc (Nat.le_refl _) (.cells #[.int .i64 a, .int .i64 (IntKind.i64.wrap b)] 3)))
  clear l1
  obtain ⟨b2, hb2⟩ : ∃ b2, IntKind.i64.wrap b = b2 := ⟨_, rfl⟩
  rw [hb2] at HL
  go_enter Tryd.func14, Tryd.ntmps14
  go_wp2_with fail
  refine nwint.mono ?_
  rintro e w1 ⟨rfl, rfl⟩
  go_wp2_with fail
  go_end0
  exact ⟨rfl, HL.out⟩
set_option maxHeartbeats 1000000 in
set_option maxRecDepth 100000 in
theorem nrlabel : Calls Tryd.prog 19 #[.pointer none] w fun e w' => e = .returned (.agg #[.int .i64 0, .int .u16 0]) ∧ Below w.heap.size w w' := by
  have l1 := (Below.refl w.heap.size w).alloc (Nat.le_refl _) (.cells #[.int .i64 0, .int .u16 0] 30)
  have HL := Lib.hid l1
  clear l1
  go_enter Tryd.func19, Tryd.ntmps19
  go_wp2_with fail
  refine nrint.mono ?_
  rintro e w1 ⟨rfl, rfl⟩
  go_wp2_with fail
  refine nrint.mono ?_
  rintro e w1 ⟨rfl, rfl⟩
  go_wp2_with fail
  refine nrok.mono ?_
  rintro e w1 ⟨rfl, rfl⟩
  go_wp2_with fail
  refine bodyPost_ret (v := .agg #[.int .i64 0, .int .u16 0]) (by simp [results, Tryd.results19, go_sem]) rfl ⟨rfl, ?_⟩
  exact HL.out
theorem toB {f : FuncId} {args : Array Value} {v : Value} (h : Calls Tryd.prog f args w fun e w' => e = .returned v ∧ w = w') : Calls Tryd.prog f args w fun e w' => e = .returned v ∧ Below w.heap.size w w' :=
  h.mono fun _ _ ⟨he, hw⟩ => ⟨he, by subst hw; exact Below.refl _ _⟩
theorem nil_c : NilC := ⟨fun _ _ _ _ => toB nwint, fun _ _ _ _ => toB nwtext, fun a b _ => nwlabel a b, fun _ => toB nwstr, fun _ _ _ => toB nrint, fun _ _ => toB nrtext, fun _ => nrlabel, fun _ => toB nrok, fun _ => toB nrdone⟩
end

section
variable {w : World}
set_option maxHeartbeats 4000000 in
set_option maxRecDepth 100000 in
theorem nil_true (hV : VarsAt w) (o : COp) :
    Calls Tryd.prog 6 #[.agg (copL o).toArray] w fun e w' => e = .returned (.bool true) ∧ Below w.heap.size w w' := by
  have HC := Lib.hid nil_c
  have HV := Lib.hid hV
  obtain ⟨k, n, lo, hi, s, a, b⟩ := o
  simp only [copL]
  clear hV
  go_enter Tryd.func6, Tryd.ntmps6
  have h1 := made_at w (.cells #[.int .i64 k, .int .i64 n, .int .i64 lo, .int .i64 hi, .string s, .int .i64 a, .int .u16 b] 32)
  have l1 := (Below.refl w.heap.size w).alloc (Nat.le_refl _) (.cells #[.int .i64 k, .int .i64 n, .int .i64 lo, .int .i64 hi, .string s, .int .i64 a, .int .u16 b] 32)
  have e1 : (w.alloc (.cells #[.int .i64 k, .int .i64 n, .int .i64 lo, .int .i64 hi, .string s, .int .i64 a, .int .u16 b] 32)).heap.size = w.heap.size + 1 := by simp
  have b2 := (Below.refl _ (w.alloc (.cells #[.int .i64 k, .int .i64 n, .int .i64 lo, .int .i64 hi, .string s, .int .i64 a, .int .u16 b] 32))).alloc (Nat.le_refl _) (.cells #[.int .i64 n] 3)
  have HO2 := Lib.hid (later_at b2 h1)
  have HL2 := Lib.hid (below_step l1 b2)
  clear h1 l1 e1 b2
  go_wp2_with fail
  refine (HC.out.wint _ _ _ _).mono ?_
  rintro e w3 ⟨rfl, hb3⟩
  have h3 := later_at hb3 HO2.out
  have l3 := below_step HL2.out hb3
  have b4 := (Below.refl _ w3).alloc (Nat.le_refl _) (.cells #[.string s] 9)
  have HO4 := Lib.hid (later_at b4 h3)
  have HL4 := Lib.hid (below_step l3 b4)
  have HO3 := Lib.hid h3
  clear hb3 l3 b4 HO2 HL2 h3
  have z4 := cellH HO3.out 4
  simp at z4
  go_wp2_with fail
  refine (HC.out.wtext _ _ _ _).mono ?_
  rintro e w5 ⟨rfl, hb5⟩
  have HO5 := Lib.hid (later_at hb5 HO4.out)
  have HL5 := Lib.hid (below_step HL4.out hb5)
  clear hb5 HO4 HL4 HO3 z4
  have z5 := cellH HO5.out 5
  have z6 := cellH HO5.out 6
  simp at z5 z6
  go_wp2_with fail
  refine (HC.out.wlabel _ _ _).mono ?_
  rintro e w6 ⟨rfl, hb6⟩
  have HO6 := Lib.hid (later_at hb6 HO5.out)
  have HL6 := Lib.hid (below_step HL5.out hb6)
  clear hb6 HO5 HL5 z5 z6
  go_wp2_with fail
  refine (awake_true (HV.out.later HL6.out)).mono ?_
  rintro e w7 ⟨rfl, hb7⟩
  have HO7 := Lib.hid (later_at hb7 HO6.out)
  have HL7 := Lib.hid (below_step HL6.out hb7)
  clear hb7 HO6 HL6
  go_wp2_with fail
  refine (HC.out.wstr _).mono ?_
  rintro e w8 ⟨rfl, hb8⟩
  have HO8 := Lib.hid (later_at hb8 HO7.out)
  have HL8 := Lib.hid (below_step HL7.out hb8)
  clear hb8 HO7 HL7
  have z2 := cellH HO8.out 2
  have z3 := cellH HO8.out 3
  simp at z2 z3
  go_wp2_with fail
  refine (HC.out.rint _ _ _).mono ?_
  rintro e w9 ⟨rfl, hb9⟩
  have HO9 := Lib.hid (later_at hb9 HO8.out)
  have HL9 := Lib.hid (below_step HL8.out hb9)
  clear hb9 HO8 HL8 z2 z3
  have z3 := cellH HO9.out 3
  simp at z3
  go_wp2_with fail
  refine (HC.out.rtext _ _).mono ?_
  rintro e w10 ⟨rfl, hb10⟩
  have HO10 := Lib.hid (later_at hb10 HO9.out)
  have HL10 := Lib.hid (below_step HL9.out hb10)
  clear hb10 HO9 HL9 z3
  go_wp2_with fail
  refine (HC.out.rlabel _).mono ?_
  rintro e w11 ⟨rfl, hb11⟩
  have HO11 := Lib.hid (later_at hb11 HO10.out)
  have HL11 := Lib.hid (below_step HL10.out hb11)
  clear hb11 HO10 HL10
  go_wp2_with fail
  refine (HC.out.rok _).mono ?_
  rintro e w12 ⟨rfl, hb12⟩
  have HO12 := Lib.hid (later_at hb12 HO11.out)
  have HL12 := Lib.hid (below_step HL11.out hb12)
  clear hb12 HO11 HL11
  go_wp2_with fail
  refine (HC.out.rdone _).mono ?_
  rintro e w13 ⟨rfl, hb13⟩
  have HO13 := Lib.hid (later_at hb13 HO12.out)
  have HL13 := Lib.hid (below_step HL12.out hb13)
  clear hb13 HO12 HL12
  go_wp2_with fail
  go_ret
  exact ⟨rfl, HL13.out⟩
end
end Go.Proofs.YtnajbcbdncmbbaaDoor
