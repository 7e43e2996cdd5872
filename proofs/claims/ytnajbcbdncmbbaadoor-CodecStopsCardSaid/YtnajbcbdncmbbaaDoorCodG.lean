/-
  The laws' first line: a few numbers and a text, written and read. Conditions: what the package-level variables hold.
-/
import Derived.Test.YtnajbcbdncmbbaaDoorCodO
import Derived.Test.YtnajbcbdncmbbaaDoorCodW
namespace Go.Proofs.YtnajbcbdncmbbaaDoor
open Go.RowKit
section
variable {w : World} {R : Nat} {s : ByteArray} {b : Bool}
theorem rd_ok (h : RdAt w R s b) : Calls Tryd.prog 20 #[.pointer (some ⟨R, 0, none⟩)] w fun e w' => e = .returned (.bool (!b)) ∧ Below w.heap.size w w' :=
  (ok_is h).mono fun _ _ ⟨he, hw⟩ => ⟨he, by subst hw; exact Below.refl _ _⟩
theorem rd_done (h : RdAt w R s b) : Calls Tryd.prog 21 #[.pointer (some ⟨R, 0, none⟩)] w fun e w' => e = .returned (.bool (!b && s.toList == [])) ∧ Below w.heap.size w w' :=
  (done_is h).mono fun _ _ ⟨he, hw⟩ => ⟨he, by subst hw; exact Below.refl _ _⟩
end
theorem numS (n : Nat) (h : n < 10) : numX (n : Int) = ⟨#[UInt8.ofNat (48 + n), 44]⟩ := by
  apply bl_inj
  rw [bl_numX]
  unfold numT
  rw [if_neg (by omega), Int.natAbs_natCast, digN_low h]
  rfl
theorem numM1 : numX (-1) = ⟨#[45, 49, 44]⟩ := by
  apply bl_inj
  rw [bl_numX]
  unfold numT
  rw [if_pos (by decide), show (-1 : Int).natAbs = 1 from rfl, digN_low (by decide)]
  rfl
abbrev abB : ByteArray := ⟨#[97, 98]⟩
abbrev s3B : ByteArray := ⟨#[50, 44, 97, 98]⟩
abbrev s2B : ByteArray := ⟨#[45, 49, 44, 50, 44, 97, 98]⟩
abbrev s1B : ByteArray := ⟨#[53, 44, 45, 49, 44, 50, 44, 97, 98]⟩
theorem s1_is : txtsX (intsX .empty [5, -1]) [abB] = s1B := by
  simp only [txtsX, intsX, List.foldl]
  rw [show (5 : Int) = ((5 : Nat) : Int) from rfl, numS 5 (by decide), numM1, show (abB.size : Int) = ((2 : Nat) : Int) from rfl, numS 2 (by decide)]
  rfl
theorem s1_takes : Takes (bl s1B) 0 9 (some (5, bl s2B)) := .inl ⟨5, bl s2B, by decide, by decide, by rw [← bl_numX, show (5 : Int) = ((5 : Nat) : Int) from rfl, numS 5 (by decide)]; rfl, by decide, by decide, rfl⟩
theorem s2_takes : Takes (bl s2B) (-1) 0 (some (-1, bl s3B)) := .inl ⟨-1, bl s3B, by decide, by decide, by rw [← bl_numX, numM1]; rfl, by decide, by decide, rfl⟩
theorem s3_takes : Takes (bl s3B) 0 2 (some (2, bl abB)) := .inl ⟨2, bl abB, by decide, by decide, by rw [← bl_numX, show (2 : Int) = ((2 : Nat) : Int) from rfl, numS 2 (by decide)]; rfl, by decide, by decide, rfl⟩
theorem nought_takes : Takes (bl ⟨#[48, 53, 44]⟩) 0 9 none := .inr ⟨fun ⟨n, x, _, _, h, h0, _⟩ => by
  rw [numT_head, List.append_assoc] at h
  have h2 : ([48, 53] : List UInt8) ++ 44 :: [] = headT n ++ 44 :: x := h
  obtain ⟨h3, _⟩ := split_first (by decide) (headT_none n) h2
  unfold headT at h3
  rw [if_neg (by omega)] at h3
  have h4 := congrArg valD h3
  simp only [List.nil_append] at h3
  have h5 : valD ([] ++ digN n.natAbs) = n.natAbs := digN_val _
  rw [h5] at h4
  have h6 : n.natAbs = 5 := h4.symm
  rw [h6, digN_low (by decide)] at h3
  exact absurd h3 (by decide), rfl⟩

set_option maxHeartbeats 4000000 in
set_option maxRecDepth 100000 in
theorem awake_true {w : World} (hV : VarsAt w) : Calls Tryd.prog 8 #[] w fun e w' => e = .returned (.bool true) ∧ Below w.heap.size w w' := by
  have l1 := (Below.refl w.heap.size w).alloc (Nat.le_refl _) (.cells #[.pointer none, .int .i64 0] 27)
  have hz := WrV.zero hV
  have l2 := (Below.refl _ (w.alloc (.cells #[.pointer none, .int .i64 0] 27))).alloc (Nat.le_refl _) (.cells #[.int .i64 5, .int .i64 (-1)] 3)
  have HOF := Lib.hid (off_new hz)
  have HW2 := Lib.hid (hz.below l2)
  have HI := Lib.hid (ints_made (w.alloc (.cells #[.pointer none, .int .i64 0] 27)) [5, -1])
  have HL2 := Lib.hid (below_step l1 l2)
  have e1 : (w.alloc (.cells #[.pointer none, .int .i64 0] 27)).heap.size = w.heap.size + 1 := by simp
  rw [e1] at HI HOF
  have HV := Lib.hid hV
  have hOw : ∀ i ∈ [w.heap.size], w.heap.size ≤ i := fun i hi => by rw [List.mem_singleton] at hi; omega
  have HOW := Lib.hid hOw
  clear l1 l2 hz e1 hV hOw
  go_enter Tryd.func8, Tryd.ntmps8
  go_wp2_with fail
  refine (wint_is HW2.out _ [5, -1] 2 HI.out HOF.out (fun n hn => by
    simp only [List.mem_cons, List.not_mem_nil, or_false] at hn
    rcases hn with rfl | rfl <;> omega) (by simp) (by
      have h1 := s1_is
      have h2 := congrArg ByteArray.size h1
      have h3 := txtsX_le [abB] (intsX .empty [5, -1])
      have h4 : s1B.size = 9 := rfl
      omega)).mono ?_
  rintro e w3 ⟨rfl, O3, hW3, hN3, hO3⟩
  have HO3 := Lib.hid (show ∀ i ∈ O3, w.heap.size ≤ i from fun i hi => by
    rcases hN3 i hi with h1 | h1
    · exact HOW.out i h1
    · exact Nat.le_trans HL2.out.size h1)
  have HL3 := Lib.hid (hO3.low HL2.out HOW.out)
  have l4 := (Below.refl _ w3).alloc (Nat.le_refl _) (.cells #[.string abB] 9)
  have HW4 := Lib.hid (hW3.below l4)
  have HOF4 := Lib.hid (off_new hW3)
  have HL4 := Lib.hid (below_step HL3.out l4)
  have HT4 := Lib.hid (show TxtsAt (w3.alloc (.cells #[.string abB] 9)) (some ⟨w3.heap.size, 0, none⟩) [abB] from fun _ => ⟨_, rfl, fun i n h => by
    match i, h with
    | 0, h =>
      obtain rfl := Option.some.inj h
      exact (cellH (made_at w3 (.cells #[.string abB] 9)) 0).trans (show _ = some (Value.string abB) from rfl)⟩)
  clear hW3 hN3 hO3 HW2 HI HOF HL2 HL3 l4
  go_wp2_with fail
  refine (wtext_is HW4.out _ [abB] 1 HT4.out HOF4.out (by simp) (by rw [s1_is]; decide)).mono ?_
  rintro e w5 ⟨rfl, O5, hW5, hN5, hO5⟩
  rw [s1_is] at hW5
  have HW5 := Lib.hid hW5
  have HL5 := Lib.hid (hO5.low HL4.out HO3.out)
  clear hW5 hN5 hO5 HW4 HOF4 HT4 HL4 HO3 HOW
  go_wp2_with fail
  refine (str_is HW5.out.wr).mono ?_
  rintro e w6 ⟨rfl, hb6⟩
  have HL6 := Lib.hid (below_step HL5.out hb6)
  clear hb6 HW5 HL5
  go_wp2_with fail
  refine (new_is s1B _).mono ?_
  rintro e w7 ⟨R, rfl, hR0, hR, hb7⟩
  have HR7 := Lib.hid hR
  have HL7 := Lib.hid (below_step HL6.out hb7)
  have hRl : w.heap.size ≤ R := Nat.le_trans HL6.out.size hR0
  clear hR0 hR hb7 HL6
  go_wp2_with fail
  refine (int_is HR7.out (HV.out.later HL7.out) 0 9 _ s1_takes (by decide)).mono ?_
  rintro e w8 ⟨rfl, hr8, ho8⟩
  have HR8 := Lib.hid (show RdAt w8 R s2B false from hr8)
  have HL8 := Lib.hid (Only1.low HL7.out ho8 hRl)
  rw [show iV false (some (5, bl s2B)) = 5 from rfl]
  clear hr8 ho8 HR7 HL7
  go_wp2_with fail
  refine (int_is HR8.out (HV.out.later HL8.out) (-1) 0 _ s2_takes (by decide)).mono ?_
  rintro e w9 ⟨rfl, hr9, ho9⟩
  have HR9 := Lib.hid (show RdAt w9 R s3B false from hr9)
  have HL9 := Lib.hid (Only1.low HL8.out ho9 hRl)
  rw [show iV false (some (-1, bl s3B)) = -1 from rfl]
  clear hr9 ho9 HR8 HL8
  go_wp2_with fail
  refine (text_is HR9.out (HV.out.later HL9.out) 2 _ s3_takes (by decide)).mono ?_
  rintro e w10 ⟨rfl, hr10, ho10⟩
  have HR10 := Lib.hid (show RdAt w10 R .empty false from hr10)
  have HL10 := Lib.hid (Only1.low HL9.out ho10 hRl)
  rw [show tV false (some (2, bl abB)) = abB from rfl]
  clear hr10 ho10 HR9 HL9
  go_wp2_with fail
  refine (rd_done HR10.out).mono ?_
  rintro e w11 ⟨rfl, hb11⟩
  have HL11 := Lib.hid (below_step HL10.out hb11)
  rw [show ((!false) && ByteArray.empty.toList == []) = true by simp]
  clear hb11 HR10 HL10
  go_wp2_with fail
  refine (new_is _ _).mono ?_
  rintro e w12 ⟨X, rfl, hX0, hX, hb12⟩
  have HX12 := Lib.hid hX
  have HL12 := Lib.hid (below_step HL11.out hb12)
  have hXl : w.heap.size ≤ X := Nat.le_trans HL11.out.size hX0
  clear hX0 hX hb12 HL11
  go_wp2_with fail
  refine (int_is HX12.out (HV.out.later HL12.out) 0 9 none nought_takes (by decide)).mono ?_
  rintro e w13 ⟨rfl, hx13, ho13⟩
  have HX13 := Lib.hid (show RdAt w13 X ⟨#[48, 53, 44]⟩ true from hx13)
  have HL13 := Lib.hid (Only1.low HL12.out ho13 hXl)
  clear hx13 ho13 HX12 HL12
  rw [show s1B = ⟨#[53, 44, 45, 49, 44, 50, 44, 97, 98]⟩ from rfl, show abB = ⟨#[97, 98]⟩ from rfl]
  go_wp2_with fail
  refine (rd_ok HX13.out).mono ?_
  rintro e w14 ⟨rfl, hb14⟩
  have HL14 := Lib.hid (below_step HL13.out hb14)
  clear hb14 HX13 HL13
  go_wp2_with fail
  refine (new_is _ _).mono ?_
  rintro e w15 ⟨Z, rfl, hZ0, hZ, hb15⟩
  have HZ15 := Lib.hid hZ
  have HL15 := Lib.hid (below_step HL14.out hb15)
  clear hZ0 hZ hb15 HL14
  go_wp2_with fail
  refine (rd_done HZ15.out).mono ?_
  rintro e w16 ⟨rfl, hb16⟩
  have HL16 := Lib.hid (below_step HL15.out hb16)
  clear hb16 HZ15 HL15
  rw [show ((!false) && (⟨#[97]⟩ : ByteArray).toList == []) = false by simp]
  go_wp2_with fail
  go_ret
  exact ⟨rfl, HL16.out⟩
end Go.Proofs.YtnajbcbdncmbbaaDoor
