/-
  The law CodecOne, walked. No conditions but the numbers' types, and what the package-level variables hold.
-/
import Derived.Test.YtnajbcbdncmbbaaDoorCodG
import Derived.Test.YtnajbcbdncmbbaaDoorKept
namespace Go.Proofs.YtnajbcbdncmbbaaDoor
open Go.RowKit

theorem keepV : ∀ v v' : World, VarsAt v → Below v.heap.size v v' → VarsAt v' := fun _ _ h hb => h.later hb
theorem awake_held {w0 : World} {cs : List (Addr × Value)} (x : HeldW (HoldS w0 cs VarsAt)) : Calls Tryd.prog 8 #[] x.w fun e w' => e = .returned (.bool true) ∧ Below x.w.heap.size x.w w' := awake_true x.ok.2.1
theorem WrV.beside {w w' : World} {O O' : List Nat} {P : Nat} {t : ByteArray} (h : WrV w O P t) (ho : OnlyO O' w w') (hd : ∀ i ∈ O, i ∉ O') (hV : VarsAt w') : WrV w' O P t := ⟨h.wr.beside ho hd, hV, h.no⟩
theorem ints_one (n : Int) : intsX .empty [n] = numX n := by
  apply bl_inj
  simp only [intsX, List.foldl]
  rw [bl_append]
  rfl
/-- Unlike numbers' texts stay unlike, however far they are read. -/
theorem num_apart {a b : Int} (h : a ≠ b) (k : Nat) (hk : k = min (numX a).size (numX b).size) : (numX a).extract 0 k ≠ (numX b).extract 0 k := by
  intro e
  have e2 := congrArg bl e
  rw [bl_extract, bl_extract, List.drop_zero, List.drop_zero] at e2
  have la := bl_len (numX a)
  have lb := bl_len (numX b)
  rw [bl_numX] at e2 la
  rw [bl_numX] at e2 lb
  apply h
  by_cases hle : (numX a).size ≤ (numX b).size
  · have hk2 : k = (numT a).length := by omega
    rw [List.take_of_length_le (l := numT a) (by omega)] at e2
    have := List.take_append_drop k (numT b)
    rw [← e2] at this
    exact (numT_front (y := []) (this.trans (List.append_nil _).symm)).1
  · have hk2 : k = (numT b).length := by omega
    rw [List.take_of_length_le (l := numT b) (by omega)] at e2
    have := List.take_append_drop k (numT a)
    rw [e2] at this
    exact (numT_front (y := []) (this.trans (List.append_nil _).symm)).1.symm

section
variable {w : World}
set_option maxHeartbeats 4000000 in
set_option maxRecDepth 100000 in
theorem one_true (hV : VarsAt w) (a b : Int) (ha : -9223372036854775808 ≤ a ∧ a ≤ 9223372036854775807) (hb : -9223372036854775808 ≤ b ∧ b ≤ 9223372036854775807) :
    Calls Tryd.prog 5 #[.int .i64 a, .int .i64 b] w fun e w' => e = .returned (.bool true) ∧ Below w.heap.size w w' := by
  have HV := Lib.hid hV
  have e1 : ∀ (W : World) (o : Obj), (W.alloc o).heap.size = W.heap.size + 1 := fun W o => by simp
  have b1 := (Below.refl w.heap.size w).alloc (Nat.le_refl _) (.cells #[.pointer none, .int .i64 0] 27)
  have hX1 := WrV.zero hV
  have hY2 := WrV.zero (hV.later b1)
  have b2 := (Below.refl _ (w.alloc (.cells #[.pointer none, .int .i64 0] 27))).alloc (Nat.le_refl _) (.cells #[.pointer none, .int .i64 0] 27)
  have b3 := (Below.refl _ ((w.alloc (.cells #[.pointer none, .int .i64 0] 27)).alloc (.cells #[.pointer none, .int .i64 0] 27))).alloc (Nat.le_refl _) (.cells #[.int .i64 a] 3)
  have hof := off_new (hX1.below b2)
  have hia := ints_made ((w.alloc (.cells #[.pointer none, .int .i64 0] 27)).alloc (.cells #[.pointer none, .int .i64 0] 27)) [a]
  rw [e1] at hY2
  rw [e1, e1] at hof hia
  have HX3 := Lib.hid ((hX1.below b2).below b3)
  have HY3 := Lib.hid (hY2.below b3)
  have HL3 := Lib.hid (below_step (below_step b1 b2) b3)
  have HS3 := Lib.hid (show w.heap.size + 1 < (((w.alloc (.cells #[.pointer none, .int .i64 0] 27)).alloc (.cells #[.pointer none, .int .i64 0] 27)).alloc (.cells #[.int .i64 a] 3)).heap.size by rw [e1, e1, e1]; omega)
  have HOF := Lib.hid hof
  have HIA := Lib.hid hia
  have HA := Lib.hid ha
  have HB := Lib.hid hb
  clear hX1 hY2 b1 b2 b3 hof hia hV e1 ha hb
  go_enter Tryd.func5, Tryd.ntmps5
  go_wp2_with fail
  have hla := numX_len HA.out.1 HA.out.2
  have hlb := numX_len HB.out.1 HB.out.2
  refine (wint_is HX3.out _ [a] 1 HIA.out HOF.out (by simpa using HA.out) (by simp) (by rw [ints_one]; omega)).mono ?_
  rintro e w4 ⟨rfl, O4, hX4, hN4, hO4⟩
  rw [ints_one] at hX4
  have HX4 := Lib.hid hX4
  have HN4 := Lib.hid (show ∀ i ∈ O4, i = w.heap.size ∨ w.heap.size + 1 < i from fun i hi => by
    rcases hN4 i hi with h1 | h1
    · exact .inl (List.mem_singleton.1 h1)
    · exact .inr (Nat.lt_of_lt_of_le HS3.out h1))
  have HY4 := Lib.hid (HY3.out.beside hO4 (fun i hi => by rw [List.mem_singleton] at hi ⊢; omega) hX4.vars)
  have HL4 := Lib.hid (hO4.low HL3.out (fun i hi => by rw [List.mem_singleton] at hi; omega))
  have b5 := (Below.refl _ w4).alloc (Nat.le_refl _) (.cells #[.int .i64 b] 3)
  have HOF5 := Lib.hid (off_new HY4.out)
  have HX5 := Lib.hid (HX4.out.below b5)
  have HY5 := Lib.hid (HY4.out.below b5)
  have HL5 := Lib.hid (below_step HL4.out b5)
  have HIB := Lib.hid (ints_made w4 [b])
  clear hX4 hN4 hO4 HX3 HY3 HL3 HS3 HOF HIA b5 HX4 HY4 HL4
  go_wp2_with fail
  refine (wint_is HY5.out _ [b] 1 HIB.out HOF5.out (by simpa using HB.out) (by simp) (by rw [ints_one]; omega)).mono ?_
  rintro e w6 ⟨rfl, O6, hY6, hN6, hO6⟩
  rw [ints_one] at hY6
  have HX6 := Lib.hid (HX5.out.beside hO6 (fun i hi => by rw [List.mem_singleton]; have := HN4.out i hi; omega) hY6.vars)
  have HY6 := Lib.hid hY6
  have HL6 := Lib.hid (hO6.low HL5.out (fun i hi => by rw [List.mem_singleton] at hi; omega))
  clear hY6 hN6 hO6 HX5 HY5 HL5 HIB HOF5 HN4
  go_wp2_with fail
  refine (str_is HX6.out.wr).mono ?_
  rintro e w7 ⟨rfl, hb7⟩
  have HY7 := Lib.hid (HY6.out.below hb7)
  have HL7 := Lib.hid (below_step HL6.out hb7)
  clear hb7 HX6 HY6 HL6
  go_wp2_with fail
  refine (str_is HY7.out.wr).mono ?_
  rintro e w8 ⟨rfl, hb8⟩
  have HL8 := Lib.hid (below_step HL7.out hb8)
  clear hb8 HY7 HL7
  have ha := HA.out
  have hb := HB.out
  have HK := Lib.hid (show (HoldS w8 [] VarsAt) w8.drew from ⟨cn, (HV.out.later HL8.out).later (Below.refl _ _).drew, (Below.refl _ _).drew⟩)
  by_cases hab : a = b
  · subst hab
    generalize numX a = X at *
    go_wp2_with fail
    refine wp_region_kept (HoldS w8 [] VarsAt) (by kernel_rfl) (by kernel_rfl) HK.out ?_
    intro hne
    repeat (go_big_quiet_step (first | (go_at_call 8; refine kept_of (HoldS.keep keepV) (awake_held _))))
    refine wpQuiet_nil ?_
    rintro w9 ⟨⟨_, hq⟩, rfl⟩
    obtain ⟨_, _, hb9⟩ := hq
    clear hne
    go_wp2_with fail
    go_ret
    exact ⟨by simp [*], below_step HL8.out hb9⟩
  · have hd := num_apart hab
    have hne : numX a ≠ numX b := fun h => hd _ rfl (by rw [h])
    have q1 : ((numX a).toList == (numX b).toList) = false := by rw [ba_beq]; exact decide_eq_false hne
    have q2 : (a == b) = false := beq_eq_false_iff_ne.2 hab
    by_cases hm : (numX b).size < (numX a).size
    · have q3 : (((numX a).extract 0 (numX b).size).toList == ((numX b).extract 0 (numX b).size).toList) = false := by rw [ba_beq]; exact decide_eq_false (hd _ (by omega))
      clear hd hne
      generalize numX a = X at *
      generalize numX b = Y at *
      go_wp2_with fail
      refine wp_region_kept (HoldS w8 [] VarsAt) (by kernel_rfl) (by kernel_rfl) HK.out ?_
      intro hne
      repeat (go_big_quiet_step (first | (go_at_call 8; refine kept_of (HoldS.keep keepV) (awake_held _))))
      refine wpQuiet_nil ?_
      rintro w9 ⟨⟨_, hq⟩, rfl⟩
      obtain ⟨_, _, hb9⟩ := hq
      clear hne
      go_wp2_with fail
      go_ret
      have hmn : (min (X.size : Int) (Y.size : Int)).toNat = Y.size := by omega
      exact ⟨by simp at q3; simp [*], below_step HL8.out hb9⟩
    · have q3 : (((numX a).extract 0 (numX a).size).toList == ((numX b).extract 0 (numX a).size).toList) = false := by rw [ba_beq]; exact decide_eq_false (hd _ (by omega))
      clear hd hne
      generalize numX a = X at *
      generalize numX b = Y at *
      go_wp2_with fail
      refine wp_region_kept (HoldS w8 [] VarsAt) (by kernel_rfl) (by kernel_rfl) HK.out ?_
      intro hne
      repeat (go_big_quiet_step (first | (go_at_call 8; refine kept_of (HoldS.keep keepV) (awake_held _))))
      refine wpQuiet_nil ?_
      rintro w9 ⟨⟨_, hq⟩, rfl⟩
      obtain ⟨_, _, hb9⟩ := hq
      clear hne
      go_wp2_with fail
      go_ret
      have hmn : (min (X.size : Int) (Y.size : Int)).toNat = X.size := by omega
      exact ⟨by simp at q3; simp [*], below_step HL8.out hb9⟩
end
end Go.Proofs.YtnajbcbdncmbbaaDoor
